import Derived.Test.YtjhkadffaephmacGreatCutRestStatesAC
import Derived.Laws.MakeOwn
import Derived.Laws.OwnMore
import Derived.Deep.RegionHeld3
namespace Go.Proofs.YtjhkadffaephmacGreat
set_option maxHeartbeats 16000000
set_option maxRecDepth 100000
def Net.look (n:Net) (i j:Nat) (has:Nat->Int):Nat->Int
 | 0=>if i=j then 0 else n.a.size-1
 | l+1=>if n.F l=i then n.a.B.get (n.look i j has l) (n.a.E.get (n.E l) (has (n.T l).toNat)) else n.look i j has l
section
variable {n:Net}
theorem Net.once (h:n.check=0){l k:Nat}(hl:l<n.ln)(hk:k<l):¬ (n.F k=n.F l/\n.T k=n.T l):=by
 unfold Net.check at h;by_cases h1:n.a.check=0
 ·rw[if_neg (by simp[h1])]at h;by_cases h2:(n.a.tell [1,2,3,4,5,6,7]).law=0
  ·rw[if_neg (by simp[h2])]at h;by_cases h3:n.nodes<1\/6<n.nodes
   ·rw[if_pos h3]at h;cases h
   ·rw[if_neg h3]at h;have:=jC.1 h l hl;unfold Net.linkErr at this;split at this
    ·cases this
    ·split at this
     ·cases this
     ·split at this
      ·cases this
      ·next ht =>
       intro⟨e1,e2⟩;apply ht;unfold Net.twice;rw[List.any_eq_true];exact⟨k,by simpa using hk,by simp[e1,e2]⟩
  ·rw[if_pos h2]at h;cases h
 ·rw[if_pos h1]at h;exact absurd h h1
theorem Net.edge_link (h:n.check=0){l:Nat}(hl:l<n.ln):n.edge (n.F l) (n.T l)=n.E l:=by
 unfold Net.edge;have:(List.range n.ln).find? (fun k=>n.F k == n.F l && n.T k == n.T l)=some l:=by
  rw[List.find?_range_eq_some];refine⟨by simp,by simpa using hl,fun j hj=>?_⟩;have:=n.once h hl hj;simp only[Bool.not_eq_true',Bool.and_eq_false_iff,beq_eq_false_iff_ne];exact Classical.byContradiction fun hc=>this ⟨Classical.byContradiction fun e=>hc (Or.inl e),Classical.byContradiction fun e=>hc (Or.inr e)⟩
 rw[this];rfl
theorem Net.link_edge {i k:Int}(he:0<=n.edge i k):∃l,l<n.ln/\n.F l=i/\n.T l=k/\n.E l=n.edge i k:=by
 unfold Net.edge at he |-;cases hf:(List.range n.ln).find? (fun l=>n.F l == i && n.T l == k) with
 | none=>rw[hf]at he;simp at he
 | some l =>
  have h1:=List.mem_of_find?_eq_some hf;have h2:=List.find?_some hf;simp at h1 h2;exact⟨l,h1,h2.1,h2.2,rfl⟩
theorem Net.look_spec (g:n.Good){f:Nat->Int}(hf:n.Routes f)(i j:Nat):∀m,m<=n.ln ->
 (0<=n.look i j f m/\n.look i j f m<n.a.size) /\
 (n.look i j f m=n.look i j f 0\/∃l,l<m/\n.F l=i/\n.look i j f m=n.a.E.get (n.E l) (f (n.T l).toNat)) /\
 n.a.B.get (n.look i j f m) (n.look i j f 0)=n.look i j f m /\
 ∀l,l<m->n.F l=i->n.a.B.get (n.look i j f m) (n.a.E.get (n.E l) (f (n.T l).toNat))=n.look i j f m:=by
 have lo:=g.law.good.lo;intro m
 induction m with
 | zero =>
  intro _;have h0:0<=n.look i j f 0/\n.look i j f 0<n.a.size:=by
   unfold Net.look;split <;> omega
  refine⟨h0,Or.inl rfl,?_,fun k hk=>absurd hk nZ⟩;rcases g.law.sel _ _ h0.1 h0.2 h0.1 h0.2 with e | e <;> exact e
 | succ m ih =>
  intro hm;obtain⟨r,s,t,u⟩:=ih (by omega);have h0:0<=n.look i j f 0/\n.look i j f 0<n.a.size:=by
   simp only[Net.look];split <;> omega
  have f0:∀l,l<n.ln->0<=n.a.E.get (n.E l) (f (n.T l).toNat)/\n.a.E.get (n.E l) (f (n.T l).toNat)<n.a.size:=fun l hl=>by
   have:=g.link l hl;have ht:(n.T l).toNat<n.N:=by unfold Net.N;omega
   exact g.law.good.edge this.2.2.2.2.1 this.2.2.2.2.2 (hf _ ht).1 (hf _ ht).2
  by_cases he:n.F m=i
  ·have e:n.look i j f (m+1)=n.a.B.get (n.look i j f m) (n.a.E.get (n.E m) (f (n.T m).toNat)):=by
    rw[Net.look,if_pos he]
   obtain⟨c0,c1⟩:=f0 m (by omega);generalize hc:n.a.E.get (n.E m) (f (n.T m).toNat)=c at *;generalize n.look i j f m=o at *;rw[e];rcases g.law.sel o c r.1 r.2 c0 c1 with e1 | e1
   ·rw[e1];refine⟨r,?_,t,fun k hk hek=>?_⟩
    ·rcases s with s | ⟨k,hk,s1,s2⟩
     ·exact Or.inl s
     ·exact Or.inr ⟨k,by omega,s1,s2⟩
    ·by_cases ek:k=m
     ·subst ek;rw[hc];exact e1
     ·exact u k (by omega) hek
   ·rw[e1];have g0:n.a.B.get c o=c:=by rw[g.law.comm c o c0 c1 r.1 r.2,e1]
    refine⟨⟨c0,c1⟩,Or.inr ⟨m,by omega,he,hc.symm⟩,g.law.le_trans c0 c1 r.1 r.2 h0.1 h0.2 g0 t,fun k hk hek=>?_⟩;by_cases ek:k=m
    ·subst ek;rw[hc];rcases g.law.sel c c c0 c1 c0 c1 with e2 | e2 <;> exact e2
    ·obtain⟨d0,d1⟩:=f0 k (by omega);exact g.law.le_trans c0 c1 r.1 r.2 d0 d1 g0 (u k (by omega) hek)
  ·have e:n.look i j f (m+1)=n.look i j f m:=by rw[Net.look,if_neg he]
   rw[e];refine⟨r,?_,t,fun k hk hek=>?_⟩
   ·rcases s with s | ⟨k,hk,s1,s2⟩
    ·exact Or.inl s
    ·exact Or.inr ⟨k,by omega,s1,s2⟩
   ·by_cases ek:k=m
    ·subst ek;exact absurd hek he
    ·exact u k (by omega) hek
theorem Net.look_route (h:n.check=0){f:Nat->Int}(hf:n.Routes f)(i j:Nat):n.look i j f n.ln=n.route i j f:=by
 have g:=Net.good_of_check h;obtain⟨r,s,t,u⟩:=n.look_spec g hf i j n.ln lR;obtain⟨r',s',t',u'⟩:=n.out_spec g hf i j n.N lR;have e0:n.look i j f 0=n.out i j f 0:=rfl;unfold Net.route;refine g.law.le_anti r.1 r.2 r'.1 r'.2 ?_ ?_
 ·rcases s' with s' | ⟨k,hk,s1,s2⟩
  ·rw[s',<-e0];exact t
  ·obtain⟨l,hl,e1,e2,e3⟩:=n.link_edge s1;have:=u l hl e1;rw[e2,e3]at this;rw[s2];simpa using this
 ·rcases s with s | ⟨l,hl,s1,s2⟩
  ·rw[s,e0];exact t'
  ·have gl:=g.link l hl;have ek:n.edge i ((n.T l).toNat:Nat)=n.E l:=by
    rw[<-s1,show (((n.T l).toNat:Nat):Int)=n.T l by omega];exact n.edge_link h hl
   have:=u' (n.T l).toNat (by unfold Net.N;omega) (by rw[ek];exact gl.2.2.2.2.1);rw[ek]at this;rw[s2];exact this
end
end Go.Proofs.YtjhkadffaephmacGreat

namespace Go.Proofs.YtjhkadffaephmacGreat
set_option maxHeartbeats 16000000
set_option maxRecDepth 100000
open Go.RowKit
structure Ints (a:Option Addr) (l b o:Nat) (f:Nat->Int) (w:World):Prop where
 addr:0<l->a=some ⟨b,o,none⟩
 cell:∀i,i<l->w.cell? ⟨b,o+i,none⟩=some (.int .i64 (f i))
 len:l<=maxLen
theorem kD {a:Option Addr}{l b o:Nat}{f:Nat->Int}{w:World}(h:Ints a l b o f w)(n:Nat):Ints a l b o f (w.drewN n):=⟨h.addr,h.cell,h.len⟩
def XA (l m:Nat) (f g:Nat->Int):Bool:=(l == m) && (List.range l).all fun i=>f i == g i
theorem WC {l m:Nat}{f g:Nat->Int}:XA l m f g=true↔l=m/\∀i,i<l->f i=g i:=by
 simp[XA]
theorem aG {l m:Nat}{f g:Nat->Int}{i:Nat}(hi:i<l)(h:f i≠g i):XA l m f g=false:=by
 rw[Bool.eq_false_iff];intro hw;exact h ((WC.1 hw).2 i hi)
theorem yF (a1 a2:Option Addr)(l1 l2 q1 q2 b1 o1 b2 o2:Nat)(f g:Nat->Int)(w:World)(h1:Ints a1 l1 b1 o1 f w)(h2:Ints a2 l2 b2 o2 g w):
 Calls Tryz.prog 27 #[.slice a1 l1 q1,.slice a2 l2 q2] w fun e w'=>e=.returned (.bool (XA l1 l2 f g))/\∃m,w'=w.drewN m:=by
 have g0:=h1.len;have h0:=h2.len;unfold maxLen at g0 h0;by_cases hl:l1=l2
 ·subst hl;go_enter Tryz.func27,Tryz.ntmps27;go_wp2
  go_loopw [5] (fun i wr=>∃k:Nat,k<=l1/\i=.int .i64 k/\Hid (∀r,r<k->f r=g r)/\Hid (∃m,wr=w.drewN m)) (fun i _=>l1-(intOf i).toNat)
  case atStart=>exact⟨0,zL,rfl,hide (fun r hr=>absurd hr nZ),hide ⟨0,rfl⟩⟩
  case round =>
   obtain⟨k,hk,rfl,d0,HD⟩:=hrel;by_cases f0:k<l1
   ·have:=h1.addr (by omega);have:=h2.addr (by omega);have:wr.cell? ⟨b1,o1+k,none⟩=some (.int .i64 (f k)):=by obtain⟨m,rfl⟩:=HD.out;exact h1.cell k f0
    have:wr.cell? ⟨b2,o2+k,none⟩=some (.int .i64 (g k)):=by obtain⟨m,rfl⟩:=HD.out;exact h2.cell k f0
    have:(k:Int)<(l1:Int):=by omega
    by_cases he:f k=g k
    ·have i0:(f k != g k)=false:=by simp[he]
     have He:=hide he;clear he;go_wp2_with fail
     go_quiet (fail)
     go_wp2;go_roundw
     case rel =>
      have hn:∀r,r<k+1->f r=g r:=fun r hr=>by
       by_cases e:r=k
       ·subst e;exact He.out
       ·exact d0.out r (by omega)
      exact⟨k+1,by omega,by go_num,hide hn,hide (by obtain⟨m,rfl⟩:=HD.out;exact⟨_,by rw[World.drewN_drewN]⟩)⟩
     case measure=>simp[intOf];omega
    ·have i0:(f k != g k)=true:=by simp[he]
     have Hw:=hide (aG (m:=l1) f0 he);clear he;go_wp2_with fail
     go_quiet (fail)
     go_wp2;go_ret;exact⟨by rw[Hw.out];rfl,by obtain⟨m,rfl⟩:=HD.out;exact⟨_,by rw[World.drewN_drewN]⟩⟩
   ·have Hw:Hid (XA l1 l1 f g=true):=hide (WC.2 ⟨rfl,fun i hi=>d0.out i (by omega)⟩);go_wp2;go_ret;exact⟨by rw[Hw.out];rfl,HD.out⟩
 ·have:((l1:Int) != (l2:Int))=true:=by simp;omega
  have Hw:Hid (XA l1 l2 f g=false):=hide (by simp[XA,hl]);clear hl;go_enter Tryz.func27,Tryz.ntmps27;go_wp2;go_ret;exact⟨by rw[Hw.out];rfl,0,rfl⟩
def Tab.same (s t:Tab):Bool:=(s.len == t.len) && (List.range s.len).all fun r=>XA (s.L r) (t.L r) (s.Z r) (t.Z r)
theorem Tab.same_iff {s t:Tab}:s.same t=true↔s.len=t.len/\∀r,r<s.len->s.L r=t.L r/\∀c,c<s.L r->s.Z r c=t.Z r c:=by
 simp only[Tab.same,Bool.and_eq_true,beq_iff_eq,List.all_eq_true,List.mem_range,WC]
theorem Tab.same_false {s t:Tab}{r:Nat}(hr:r<s.len)(h:XA (s.L r) (t.L r) (s.Z r) (t.Z r)=false):s.same t=false:=by
 rw[Bool.eq_false_iff];intro hw;simp only[Tab.same,Bool.and_eq_true,List.all_eq_true,List.mem_range]at hw;rw[hw.2 r hr]at h;cases h
theorem Tab.same_true {s t:Tab}(hl:s.len=t.len)(h:∀r,r<s.len->XA (s.L r) (t.L r) (s.Z r) (t.Z r)=true):s.same t=true:=by
 simp only[Tab.same,Bool.and_eq_true,List.all_eq_true,List.mem_range];exact⟨by simp[hl],h⟩
theorem Tab.same_refl (s:Tab):s.same s=true:=Tab.same_iff.2 ⟨rfl,fun _ _=>⟨rfl,fun _ _=>rfl⟩⟩
theorem Mat.In.ints {m:Mat}{n:Nat}{w:World}(h:m.In n w){r:Nat}(hr:r<m.t.len):Ints (m.A r) (m.t.L r) (m.RB r) (m.RO r) (m.t.Z r) w :=
 ⟨fun h0=>(h.addr r hr h0).1,fun i hi=>h.cell r hr i hi,h.lens r hr⟩
theorem dD (x y:Mat)(n:Nat)(w:World)(h1:x.In n w)(h2:y.In n w):
 Calls Tryz.prog 16 #[x.val,y.val] w fun e w'=>e=.returned (.bool (x.t.same y.t))/\∃m,w'=w.drewN m:=by
 have h0:=h1.len;have i0:=h2.len;unfold maxLen at h0 i0;simp only[Mat.val];by_cases hl:x.t.len=y.t.len
 ·have Hl:=hide hl;have j0:((x.t.len:Int) != (y.t.len:Int))=false:=by simp[hl]
  clear hl;go_enter Tryz.func16,Tryz.ntmps16;go_wp2
  go_loopw [5] (fun i wr=>∃k:Nat,k<=x.t.len/\i=.int .i64 k/\Hid (∀r,r<k->XA (x.t.L r) (y.t.L r) (x.t.Z r) (y.t.Z r)=true)/\Hid (∃m,wr=w.drewN m)) (fun i _=>x.t.len-(intOf i).toNat)
  case atStart=>exact⟨0,zL,rfl,hide (fun r hr=>absurd hr nZ),hide ⟨0,rfl⟩⟩
  case round =>
   obtain⟨k,hk,rfl,f0,HD⟩:=hrel;by_cases g0:k<x.t.len
   ·have d0:k<y.t.len:=by have:=Hl.out;omega
    have:=h1.ga (by omega);have:=h2.ga (by omega);have:wr.cell? ⟨x.gb,x.go+k,none⟩=some (.slice (x.A k) (x.t.L k) (x.C k)):=by obtain⟨m,rfl⟩:=HD.out;exact h1.row k g0
    have:wr.cell? ⟨y.gb,y.go+k,none⟩=some (.slice (y.A k) (y.t.L k) (y.C k)):=by obtain⟨m,rfl⟩:=HD.out;exact h2.row k d0
    have:(k:Int)<(x.t.len:Int):=by omega
    have:(k:Int)<(y.t.len:Int):=by omega
    have hS:=hide (fun q=>yF (x.A k) (y.A k) (x.t.L k) (y.t.L k) (x.C k) (y.C k) _ _ _ _ _ _ (wr.drewN q) (kD (w:=wr) (by obtain⟨m,rfl⟩:=HD.out;exact kD (h1.ints g0) m) q) (kD (w:=wr) (by obtain⟨m,rfl⟩:=HD.out;exact kD (h2.ints d0) m) q));cases hs:XA (x.t.L k) (y.t.L k) (x.t.Z k) (y.t.Z k) with
    | true =>
     simp only[hs]at hS;have Hs:=hide hs;clear hs;go_wp2_with fail
     go_quiet ((go_at_call 27;exact Calls.quiet_of (hS.out _)))
     go_wp2;go_roundw
     case rel =>
      have hn:∀r,r<k+1->XA (x.t.L r) (y.t.L r) (x.t.Z r) (y.t.Z r)=true:=fun r hr=>by
       by_cases e:r=k
       ·subst e;exact Hs.out
       ·exact f0.out r (by omega)
      exact⟨k+1,by omega,by go_num,hide hn,hide (by obtain⟨m,rfl⟩:=HD.out;exact⟨_,by rw[World.drewN_drewN]⟩)⟩
     case measure=>simp[intOf];omega
    | false =>
     simp only[hs]at hS;have Hw:=hide (Tab.same_false g0 hs);clear hs;go_wp2_with fail
     go_quiet ((go_at_call 27;exact Calls.quiet_of (hS.out _)))
     go_wp2;go_ret;exact⟨by rw[Hw.out];rfl,by obtain⟨m,rfl⟩:=HD.out;exact⟨_,by rw[World.drewN_drewN]⟩⟩
   ·have Hw:Hid (x.t.same y.t=true):=hide (Tab.same_true Hl.out (fun i hi=>f0.out i (by omega)));go_wp2;go_ret;exact⟨by rw[Hw.out];rfl,HD.out⟩
 ·have j0:((x.t.len:Int) != (y.t.len:Int))=true:=by simp;omega
  have Hw:Hid (x.t.same y.t=false):=hide (by simp[Tab.same,hl]);clear hl;go_enter Tryz.func16,Tryz.ntmps16;go_wp2;go_ret;exact⟨by rw[Hw.out];rfl,0,rfl⟩
theorem QF (x y:xA)(w:World)(h1:x.In w.heap.size w)(h2:y.In w.heap.size w)(hs:x.size=y.size)(hB:x.B.t.same y.B.t=true)(hE:x.E.t.same y.E.t=true):
 Calls Tryz.prog 18 #[x.val,y.val] w fun e w'=>e=.returned (.bool true)/\Below w.heap.size w w':=by
 have d0:Below w.heap.size w ((w.alloc (.cells #[.int .i64 x.size,x.B.val,x.E.val] 24)).alloc (.cells #[.int .i64 y.size,y.B.val,y.E.val] 24)) :=
  ((Below.refl _ w).alloc lR _).alloc (by simp) _
 have HB:=hide (dD x.B y.B _ _ (h1.1.below d0 lR) (h2.1.below d0 lR));have HE:=hide (fun q=>dD x.E y.E w.heap.size (((w.alloc (.cells #[.int .i64 x.size,x.B.val,x.E.val] 24)).alloc (.cells #[.int .i64 y.size,y.B.val,y.E.val] 24)).drewN q) (h1.2.below (below_drewN d0 q) lR) (h2.2.below (below_drewN d0 q) lR));rw[hB]at HB;simp only[hE]at HE;have:((x.size:Int) == y.size)=true:=by simp[hs]
 clear hs hB hE;simp only[xA.val];go_enter Tryz.func18,Tryz.ntmps18;go_wp2_with fail;go_at_call 16;refine HB.out.mono ?_;rintro e w1 ⟨rfl,m1,rfl⟩;go_wp2_with fail;go_at_call 16;refine(HE.out _).mono ?_;rintro e w2 ⟨rfl,m2,rfl⟩;go_wp2;go_ret;exact⟨rfl,below_drewN d0 _⟩
theorem Ints.below {a:Option Addr}{l b o k:Nat}{f:Nat->Int}{w w':World}(h:Ints a l b o f w)(hb:Below k w w')(hk:0<l->b<k):Ints a l b o f w' :=
 ⟨h.addr,fun i hi=>by rw[hb.cell (p:=⟨b,o+i,none⟩) (hk (by omega))];exact h.cell i hi,h.len⟩
theorem QJ (fid:Nat)(cap:Array Value)(a:Option Addr)(l q b o:Nat)(f:Nat->Int)(p:Nat->Bool)(w:World)(h:Ints a l b o f w)(hb:0<l->b<w.heap.size)
 (hcf:∀ (args:Array Value) (W:World),(callFunc fid args).run Tryz.prog W=.ok (.enter fid args) W)
 (hat:∀ (i:Nat) (W:World),i<l->Below w.heap.size w W->Calls Tryz.prog fid (#[.int .i64 (f i)] ++ cap) W fun e w'=>e=.returned (.bool (p i))/\Below W.heap.size W w') :
 Calls Tryz.prog 133 #[.slice a l q,.func (.func fid) #[] cap] w fun e w'=>(∃r:Int,e=.returned (.int .i64 r)/\decide (0<=r)=(List.range l).any p)/\Below w.heap.size w w':=by
 have h0:=h.len;unfold maxLen at h0;have HA:=hide hat;have H:=hide h;have Hb:=hide hb;clear hat h;go_enter Tryz.func133,Tryz.ntmps133;go_wp2
 go_loopw [5,8] (fun _ i wr=>∃k:Nat,k<=l/\i=.int .i64 k/\Hid (∀r,r<k->p r=false)/\Hid (Below w.heap.size w wr)) (fun _ i _=>l-(intOf i).toNat)
 case atStart=>exact⟨0,zL,rfl,hide (fun r hr=>absurd hr nZ),hide (Below.refl _ _)⟩
 case round =>
  obtain⟨k,hk,rfl,d0,HB⟩:=hrel;by_cases j0:k<l
  ·have ha:=H.out.addr (by omega);have:=(H.out.below HB.out Hb.out).cell k j0;have:(k:Int)<(l:Int):=by omega
   have HC:=hide (HA.out k wr j0 HB.out);by_cases hp:p k=true
   ·rw[hp]at HC;have Hw:Hid ((List.range l).any p=true):=hide (List.any_eq_true.2 ⟨k,List.mem_range.2 j0,hp⟩);clear hp;go_wp2_with fail;refine HC.out.mono ?_;rintro e w2 ⟨rfl,f0⟩;have g0:=hide (HB.out.trans (f0.mono HB.out.size));clear f0;go_wp2;go_ret;exact⟨⟨(k:Int),rfl,by rw[Hw.out];simp⟩,g0.out⟩
   ·have i0:p k=false:=by simpa using hp
    rw[i0]at HC;have k0:=hide i0;clear hp i0;go_wp2_with fail;refine HC.out.mono ?_;rintro e w2 ⟨rfl,f0⟩;have g0:=hide (HB.out.trans (f0.mono HB.out.size));clear f0;have Hn:Hid (∀r,r<k+1->p r=false):=hide (fun r hr=>by
     by_cases e:r=k
     ·subst e;exact k0.out
     ·exact d0.out r (by omega))
    go_wp2;go_roundw
    case rel =>
     first
     | exact⟨k+1,by omega,by go_num,Hn,g0⟩
     | ((try rw[<-ha]);(repeat apply Exists.intro);refine⟨?_,rfl⟩;exact⟨k+1,by omega,by go_num,Hn,g0⟩)
    case measure=>simp[intOf];omega
  ·have Hw:Hid ((List.range l).any p=false):=hide (by
    rw[List.any_eq_false];intro r hr;rw[d0.out r (by have:=List.mem_range.1 hr;omega)];decide)
   go_wp2;go_ret;exact⟨⟨-1,rfl,by rw[Hw.out];rfl⟩,HB.out⟩
theorem dF (fid:Nat)(cap:Array Value)(a:Option Addr)(l q b o:Nat)(f:Nat->Int)(p:Nat->Bool)(w:World)(h:Ints a l b o f w)(hb:0<l->b<w.heap.size)
 (hcf:∀ (args:Array Value) (W:World),(callFunc fid args).run Tryz.prog W=.ok (.enter fid args) W)
 (hat:∀ (i:Nat) (W:World),i<l->Below w.heap.size w W->Calls Tryz.prog fid (#[.int .i64 (f i)] ++ cap) W fun e w'=>e=.returned (.bool (p i))/\Below W.heap.size W w') :
 Calls Tryz.prog 106 #[.slice a l q,.func (.func fid) #[] cap] w fun e w'=>e=.returned (.bool ((List.range l).any p))/\Below w.heap.size w w':=by
 have HC:=hide (QJ fid cap a l q b o f p w h hb hcf hat);skip;clear h hat hcf;go_enter Tryz.func106,Tryz.ntmps106;go_wp2_with fail;go_at_call 133;refine HC.out.mono ?_;rintro e w1 ⟨⟨r,rfl,hr⟩,hb⟩;have HB:=hide hb;have HR:=hide hr;clear hb hr;go_wp2;go_ret;exact⟨by rw[<-HR.out];rfl,HB.out⟩
theorem OJ (fid:Nat)(cap:Array Value)(x:Mat)(p:Nat->Bool)(w:World)(h:x.In w.heap.size w)
 (hcf:∀ (args:Array Value) (W:World),(callFunc fid args).run Tryz.prog W=.ok (.enter fid args) W)
 (hat:∀ (i:Nat) (W:World),i<x.t.len->Below w.heap.size w W->Calls Tryz.prog fid (#[.slice (x.A i) (x.t.L i) (x.C i)] ++ cap) W fun e w'=>e=.returned (.bool (p i))/\Below W.heap.size W w') :
 Calls Tryz.prog 108 #[x.val,.func (.func fid) #[] cap] w fun e w'=>(∃r:Int,e=.returned (.int .i64 r)/\decide (0<=r)=(List.range x.t.len).any p)/\Below w.heap.size w w':=by
 have h0:=h.len;unfold maxLen at h0;have HA:=hide hat;have H:=hide h;simp only[Mat.val];clear hat h;go_enter Tryz.func108,Tryz.ntmps108;go_wp2
 go_loopw [5,8] (fun _ i wr=>∃k:Nat,k<=x.t.len/\i=.int .i64 k/\Hid (∀r,r<k->p r=false)/\Hid (Below w.heap.size w wr)) (fun _ i _=>x.t.len-(intOf i).toNat)
 case atStart=>exact⟨0,zL,rfl,hide (fun r hr=>absurd hr nZ),hide (Below.refl _ _)⟩
 case round =>
  obtain⟨k,hk,rfl,d0,HB⟩:=hrel;by_cases j0:k<x.t.len
  ·have ha:=H.out.ga (by omega);have:=(H.out.below HB.out lR).row k j0;have:(k:Int)<(x.t.len:Int):=by omega
   have HC:=hide (HA.out k wr j0 HB.out);by_cases hp:p k=true
   ·rw[hp]at HC;have Hw:Hid ((List.range x.t.len).any p=true):=hide (List.any_eq_true.2 ⟨k,List.mem_range.2 j0,hp⟩);clear hp;go_wp2_with fail;refine HC.out.mono ?_;rintro e w2 ⟨rfl,f0⟩;have g0:=hide (HB.out.trans (f0.mono HB.out.size));clear f0;go_wp2;go_ret;exact⟨⟨(k:Int),rfl,by rw[Hw.out];simp⟩,g0.out⟩
   ·have i0:p k=false:=by simpa using hp
    rw[i0]at HC;have k0:=hide i0;clear hp i0;go_wp2_with fail;refine HC.out.mono ?_;rintro e w2 ⟨rfl,f0⟩;have g0:=hide (HB.out.trans (f0.mono HB.out.size));clear f0;have Hn:Hid (∀r,r<k+1->p r=false):=hide (fun r hr=>by
     by_cases e:r=k
     ·subst e;exact k0.out
     ·exact d0.out r (by omega))
    go_wp2;go_roundw
    case rel =>
     first
     | exact⟨k+1,by omega,by go_num,Hn,g0⟩
     | ((try rw[<-ha]);(repeat apply Exists.intro);refine⟨?_,rfl⟩;exact⟨k+1,by omega,by go_num,Hn,g0⟩)
    case measure=>simp[intOf];omega
  ·have Hw:Hid ((List.range x.t.len).any p=false):=hide (by
    rw[List.any_eq_false];intro r hr;rw[d0.out r (by have:=List.mem_range.1 hr;omega)];decide)
   go_wp2;go_ret;exact⟨⟨-1,rfl,by rw[Hw.out];rfl⟩,HB.out⟩
theorem QC (fid:Nat)(cap:Array Value)(x:Mat)(p:Nat->Bool)(w:World)(h:x.In w.heap.size w)
 (hcf:∀ (args:Array Value) (W:World),(callFunc fid args).run Tryz.prog W=.ok (.enter fid args) W)
 (hat:∀ (i:Nat) (W:World),i<x.t.len->Below w.heap.size w W->Calls Tryz.prog fid (#[.slice (x.A i) (x.t.L i) (x.C i)] ++ cap) W fun e w'=>e=.returned (.bool (p i))/\Below W.heap.size W w') :
 Calls Tryz.prog 74 #[x.val,.func (.func fid) #[] cap] w fun e w'=>e=.returned (.bool ((List.range x.t.len).any p))/\Below w.heap.size w w':=by
 have HC:=hide (OJ fid cap x p w h  hcf hat);simp only[Mat.val]at HC |-;clear h hat hcf;go_enter Tryz.func74,Tryz.ntmps74;go_wp2_with fail;go_at_call 108;refine HC.out.mono ?_;rintro e w1 ⟨⟨r,rfl,hr⟩,hb⟩;have HB:=hide hb;have HR:=hide hr;clear hb hr;go_wp2;go_ret;exact⟨by rw[<-HR.out];rfl,HB.out⟩
theorem XB (x n:Int)(w:World):
 Calls Tryz.prog 90 #[.int .i64 x,.int .i64 n] w fun e w'=>e=.returned (.bool (decide (0<=x) && decide (x<n)))/\w'=w:=by
 by_cases h:0<=x
 ·go_enter Tryz.func90,Tryz.ntmps90;go_wp2;go_ret;exact⟨by simp[h],rfl⟩
 ·go_enter Tryz.func90,Tryz.ntmps90;go_wp2;go_ret;exact⟨by simp;omega,rfl⟩
theorem WI (args:Array Value)(W:World):(callFunc 107 args).run Tryz.prog W=.ok (.enter 107 args) W:=by rfl
theorem ZK (x s:Int)(bx:Nat)(w:World)(h:w.cell? ⟨bx,0,none⟩=some (.int .i64 s)):
 Calls Tryz.prog 107 #[.int .i64 x,.pointer (some ⟨bx,0,none⟩)] w fun e w'=>e=.returned (.bool (!(decide (0<=x) && decide (x<s))))/\w'=w:=by
 have HS:=hide (XB x s w);generalize hv:(decide (0<=x) && decide (x<s))=v at HS |-;clear hv;go_enter Tryz.func107,Tryz.ntmps107;go_wp2_with fail;go_at_call 90;refine HS.out.mono ?_;rintro e w1 ⟨rfl,rfl⟩;go_wp2;go_ret;exact⟨rfl,rfl⟩
def jB (l:Nat) (f:Nat->Int) (s:Int):Bool:=(List.range l).all fun j=>decide (0<=f j) && decide (f j<s)
theorem sD {l:Nat}{f:Nat->Int}{s:Int}:jB l f s=true↔∀j,j<l->0<=f j/\f j<s:=by simp[jB]
theorem vQ (l:Nat)(f:Nat->Int)(s:Int):(!(List.range l).any fun j=>!(decide (0<=f j) && decide (f j<s)))=jB l f s:=by
 unfold jB;rw[List.all_eq_not_any_not]
theorem eD (a:Option Addr)(l q b o:Nat)(f:Nat->Int)(s:Int)(w:World)(h:Ints a l b o f w)(hb:0<l->b<w.heap.size):
 Calls Tryz.prog 73 #[.slice a l q,.int .i64 s] w fun e w'=>e=.returned (.bool (jB l f s))/\Below w.heap.size w w':=by
 have d0:Below w.heap.size w (w.alloc (.cells #[.int .i64 s] 3)):=(Below.refl _ w).alloc lR _;have b0:=Blk.new w #[.int .i64 s] 3;have HC:=hide (dF 107 #[.pointer (some ⟨w.heap.size,0,none⟩)] a l q b o f (fun j=>!(decide (0<=f j) && decide (f j<s))) _ (h.below d0 hb) (fun h0=>Nat.lt_of_lt_of_le (hb h0) d0.size) WI (fun i W hi hB=>by
  refine(ZK (f i) s w.heap.size W ((b0.below hB b0.lt).cell 0)).mono ?_;rintro e w' ⟨rfl,rfl⟩;exact⟨rfl,Below.refl _ _⟩))
 have f0:=hide d0;have HI:=hide (vQ l f s);clear h hb d0 b0;go_enter Tryz.func73,Tryz.ntmps73;go_wp2_with fail;go_at_call 106;refine HC.out.mono ?_;rintro e w1 ⟨rfl,g0⟩;have HB:=hide (f0.out.trans (g0.mono f0.out.size));generalize hv:((List.range l).any fun j=>!(decide (0<=f j) && decide (f j<s)))=v at HI |-;clear hv g0;go_wp2;go_ret;exact⟨by rw[<-HI.out];rfl,HB.out⟩
structure dA where
 a:xA
 nodes:Int
 la:Option Addr
 ln:Nat
 lc:Nat
 lb:Nat
 lo:Nat
 F:Nat->Int
 T:Nat->Int
 E:Nat->Int
def dA.cells (n:dA):Array Value:=#[.int .i64 n.a.size,n.a.B.val,n.a.E.val,.int .i64 n.nodes,.slice n.la n.ln n.lc]
def dA.val (n:dA):Value:=.agg n.cells
def dA.net (n:dA):Net:=⟨n.a.alg,n.nodes,n.ln,n.F,n.T,n.E⟩
structure dA.In (n:dA) (N:Nat) (w:World):Prop where
 a:n.a.In N w
 la:0<n.ln->n.la=some ⟨n.lb,n.lo,none⟩
 lb:0<n.ln->n.lb<N
 f:∀i,i<n.ln->w.cell? ⟨n.lb,n.lo+i*3,none⟩=some (.int .i64 (n.F i))
 t:∀i,i<n.ln->w.cell? ⟨n.lb,n.lo+i*3+1,none⟩=some (.int .i64 (n.T i))
 e:∀i,i<n.ln->w.cell? ⟨n.lb,n.lo+i*3+2,none⟩=some (.int .i64 (n.E i))
 len:n.ln<=maxLen
theorem dA.In.below {n:dA}{N k:Nat}{w w':World}(h:n.In N w)(hb:Below k w w')(hk:N<=k):n.In N w' where
 a:=h.a.below hb hk
 la:=h.la
 lb:=h.lb
 f:=fun i hi=>by rw[hb.cell (p:=⟨n.lb,n.lo+i*3,none⟩) (Nat.lt_of_lt_of_le (h.lb (by omega)) hk)];exact h.f i hi
 t:=fun i hi=>by rw[hb.cell (p:=⟨n.lb,n.lo+i*3+1,none⟩) (Nat.lt_of_lt_of_le (h.lb (by omega)) hk)];exact h.t i hi
 e:=fun i hi=>by rw[hb.cell (p:=⟨n.lb,n.lo+i*3+2,none⟩) (Nat.lt_of_lt_of_le (h.lb (by omega)) hk)];exact h.e i hi
 len:=h.len
theorem dA.In.mono {n:dA}{N k:Nat}{w:World}(h:n.In N w)(hk:N<=k):n.In k w where
 a:=h.a.mono hk
 la:=h.la
 lb:=fun h0=>Nat.lt_of_lt_of_le (h.lb h0) hk
 f:=h.f
 t:=h.t
 e:=h.e
 len:=h.len
theorem dA.In.grown {n:dA}{w w':World}(h:n.In w.heap.size w)(hb:Below w.heap.size w w'):n.In w'.heap.size w' :=
 (h.below hb lR).mono hb.size
theorem Mat.In.grown {m:Mat}{w w':World}(h:m.In w.heap.size w)(hb:Below w.heap.size w w'):m.In w'.heap.size w' :=
 (h.below hb lR).mono hb.size
theorem QK (args:Array Value)(W:World):(callFunc 105 args).run Tryz.prog W=.ok (.enter 105 args) W:=by rfl
theorem PM (a:Option Addr)(l q bx:Nat)(s:Int)(w:World)(h:w.cell? ⟨bx,0,none⟩=some (.int .i64 s)):
 Calls Tryz.prog 105 #[.slice a l q,.pointer (some ⟨bx,0,none⟩)] w fun e w'=>e=.returned (.bool ((l:Int) != s))/\w'=w:=by
 go_enter Tryz.func105,Tryz.ntmps105;go_wp2;go_ret;exact⟨rfl,rfl⟩
theorem VR (t:Tab)(s:Int):(!(List.range t.len).any fun r=>(t.L r:Int) != s)=t.wide s:=by
 unfold Tab.wide;rw[List.all_eq_not_any_not];rfl
theorem BO (m:Mat)(s:Int)(w:World)(h:m.In w.heap.size w):
 Calls Tryz.prog 71 #[m.val,.int .i64 s] w fun e w'=>e=.returned (.bool (((m.t.len:Int) == s) && m.t.wide s))/\Below w.heap.size w w':=by
 have d0:Below w.heap.size w (w.alloc (.cells #[.int .i64 s] 3)):=(Below.refl _ w).alloc lR _;have b0:=Blk.new w #[.int .i64 s] 3;have HC:=hide (QC 105 #[.pointer (some ⟨w.heap.size,0,none⟩)] m (fun r=>(m.t.L r:Int) != s) _ (h.grown d0) QK (fun i W hi hB=>by
  refine(PM (m.A i) (m.t.L i) (m.C i) w.heap.size s W ((b0.below hB b0.lt).cell 0)).mono ?_;rintro e w' ⟨rfl,rfl⟩;exact⟨rfl,Below.refl _ _⟩))
 have f0:=hide d0;have HI:=hide (VR m.t s);simp only[Mat.val]at HC |-;clear h d0 b0;by_cases hl:(m.t.len:Int)=s
 ·have i0:((m.t.len:Int) != s)=false:=by simp[hl]
  have g0:Hid (((m.t.len:Int) == s)=true):=hide (by simp[hl]);clear hl;go_enter Tryz.func71,Tryz.ntmps71;go_wp2_with fail;go_at_call 74;refine HC.out.mono ?_;rintro e w1 ⟨rfl,h0⟩;have HB:=hide (f0.out.trans (h0.mono f0.out.size));generalize hv:((List.range m.t.len).any fun r=>(m.t.L r:Int) != s)=v at HI |-;clear hv h0 HC;go_wp2;go_ret;exact⟨by rw[g0.out,<-HI.out];rfl,HB.out⟩
 ·have i0:((m.t.len:Int) != s)=true:=by simp[hl]
  have g0:Hid (((m.t.len:Int) == s)=false):=hide (by simp[hl]);clear hl HC HI;go_enter Tryz.func71,Tryz.ntmps71;go_wp2;go_ret;exact⟨by rw[g0.out];rfl,f0.out⟩
theorem eQ (n:dA)(i j:Nat)(w:World)(h0:2<=n.a.size)(h1:n.a.size<=24):
 Calls Tryz.prog 60 #[n.val,.int .i64 i,.int .i64 j] w fun e w'=>e=.returned (.int .i64 (n.net.begin i j))/\Below w.heap.size w w':=by
 have Hd:Hid (n.net.begin i j=if i=j then 0 else n.a.size-1):=hide rfl;have f0:∀o,Below w.heap.size w (w.alloc o):=fun o=>(Below.refl _ _).alloc lR _;simp only[dA.val,dA.cells,Mat.val];by_cases e:i=j
 ·have d0:Hid (n.net.begin i j=0):=hide (by rw[Hd.out,if_pos e]);subst e;clear Hd;go_enter Tryz.func60,Tryz.ntmps60;go_wp2;go_ret;exact⟨by rw[d0.out];rfl,f0 _⟩
 ·have:((i:Int) == (j:Int))=false:=by simp;omega
  have d0:Hid (n.net.begin i j=n.a.size-1):=hide (by rw[Hd.out,if_neg e]);clear e Hd;go_enter Tryz.func60,Tryz.ntmps60;go_wp2;go_ret;exact⟨by rw[d0.out];rfl,f0 _⟩
theorem Tryz.infoInt:(Tryz.prog.info? 3).map (fun i=>(i.zero,i.size,i.bytes))=some (some (.int .i64 0),1,8):=by kernel_rfl
theorem Tryz.infoInts:(Tryz.prog.info? 32).map (fun i=>(i.zero,i.size,i.bytes))=some (some (.slice none 0 0),1,24):=by kernel_rfl
def UC (Z:Nat->Int) (n c:Nat):Array Value:=((List.range n).map fun j=>if j<c then Value.int .i64 (Z j) else .int .i64 0).toArray
theorem FD {Z:Nat->Int}{n c j:Nat}(h:j<n):(UC Z n c)[j]? = some (if j<c then Value.int .i64 (Z j) else .int .i64 0):=by
 simp[UC,h]
theorem fH {Z:Nat->Int}{n c:Nat}:(UC Z n c).setIfInBounds c (.int .i64 (Z c))=UC Z n (c+1):=by
 apply Array.ext
 ·simp[UC]
 ·intro j h1 h2;have hn:j<n:=by simpa [UC] using h2
  by_cases e:c=j
  ·subst e;simp[UC]
  ·rw[Array.getElem_setIfInBounds_ne (by simpa [UC] using hn) e];simp only[UC,List.getElem_toArray,List.getElem_map,List.getElem_range];by_cases h:j<c
   ·rw[if_pos h,if_pos (by omega)]
   ·rw[if_neg h,if_neg (by omega)]
theorem bG (Z:Nat->Int)(n:Nat):madeCells #[.int .i64 0] n=UC Z n 0:=by
 apply Array.ext';rw[toList_madeCells_one];simp[UC,List.map_const']
def yD (b p n i:Nat):Array Value:=((List.range n).map fun r=>if r<i then Value.slice (some ⟨b+r,0,none⟩) p p else .slice none 0 0).toArray
theorem GD {b p n i r:Nat}(h:r<n):(yD b p n i)[r]? = some (if r<i then Value.slice (some ⟨b+r,0,none⟩) p p else .slice none 0 0):=by
 simp[yD,h]
theorem gP {b p n i:Nat}:(yD b p n i).setIfInBounds i (.slice (some ⟨b+i,0,none⟩) p p)=yD b p n (i+1):=by
 apply Array.ext
 ·simp[yD]
 ·intro j h1 h2;have hn:j<n:=by simpa [yD] using h2
  by_cases e:i=j
  ·subst e;simp[yD]
  ·rw[Array.getElem_setIfInBounds_ne (by simpa [yD] using hn) e];simp only[yD,List.getElem_toArray,List.getElem_map,List.getElem_range];by_cases h:j<i
   ·rw[if_pos h,if_pos (by omega)]
   ·rw[if_neg h,if_neg (by omega)]
theorem sN (b p n:Nat):madeCells #[.slice none 0 0] n=yD b p n 0:=by
 apply Array.ext';rw[toList_madeCells_one];simp[yD,List.map_const']
theorem Blk.other {W:World}{B C:Nat}{vs:Array Value}{t:TypeId}(h:Blk W B vs t)(hne:B≠C)(i:Nat)(v:Value):Blk (W.setCell ⟨C,i,none⟩ v) B vs t:=by
 unfold Blk;rw[show (W.setCell ⟨C,i,none⟩ v).heap[B]? = (W.heap.modify C _)[B]? from rfl,Array.getElem?_modify,if_neg (Ne.symm hne)];exact h
theorem Blk.drewN {W:World}{B:Nat}{vs:Array Value}{t:TypeId}(h:Blk W B vs t)(n:Nat):Blk (W.drewN n) B vs t:=h
structure jK (w:World) (n p:Nat) (Z:Nat->Nat->Int) (i:Nat) (W:World):Prop where
 size:W.heap.size=w.heap.size+1+i
 below:Below w.heap.size w W
 out:Blk W w.heap.size (yD (w.heap.size+1) p n i) 32
 rows:∀r,r<i->Blk W (w.heap.size+1+r) (UC (Z r) p p) 3
structure XP (w:World) (n p:Nat) (Z:Nat->Nat->Int) (i c:Nat) (W:World):Prop where
 size:W.heap.size=w.heap.size+1+i+1
 below:Below w.heap.size w W
 out:Blk W w.heap.size (yD (w.heap.size+1) p n (i+1)) 32
 rows:∀r,r<i->Blk W (w.heap.size+1+r) (UC (Z r) p p) 3
 cur:Blk W (w.heap.size+1+i) (UC (Z i) p c) 3
theorem jK.start (w:World)(n p:Nat)(Z:Nat->Nat->Int):jK w n p Z 0 (w.alloc (.cells (madeCells #[.slice none 0 0] n) 32)) where
 size:=by simp
 below:=(Below.refl _ _).alloc lR _
 out:=by rw[sN (w.heap.size+1) p n];exact Blk.new w _ _
 rows:=fun r hr=>absurd hr nZ
theorem jK.row {w:World}{n p:Nat}{Z:Nat->Nat->Int}{i:Nat}{W:World}(h:jK w n p Z i W):
 XP w n p Z i 0 ((W.alloc (.cells (madeCells #[.int .i64 0] p) 3)).setCell ⟨w.heap.size,i,none⟩ (.slice (some ⟨w.heap.size+1+i,0,none⟩) p p)) where
 size:=by simp[h.size]
 below:=(h.below.alloc (by simp[h.size];omega) _).setCell (p:=⟨w.heap.size,i,none⟩) lR _
 out:=by have:=(h.out.alloc (.cells (madeCells #[.int .i64 0] p) 3)).set i (.slice (some ⟨w.heap.size+1+i,0,none⟩) p p);rw[gP]at this;exact this
 rows:=fun r hr=>((h.rows r hr).alloc _).other (by omega) _ _
 cur:=by rw[bG (Z i) p];exact(Blk.new' (by simp[h.size])).other (by omega) _ _
theorem XP.put {w:World}{n p:Nat}{Z:Nat->Nat->Int}{i c:Nat}{W:World}(h:XP w n p Z i c W)(q:Nat):
 XP w n p Z i (c+1) ((W.drewN q).setCell ⟨w.heap.size+1+i,c,none⟩ (.int .i64 (Z i c))) where
 size:=by simpa using h.size
 below:=(below_drewN h.below q).setCell (p:=⟨w.heap.size+1+i,c,none⟩) (by show w.heap.size<=w.heap.size+1+i;omega) _
 out:=(h.out.drewN q).other (by omega) _ _
 rows:=fun r hr=>((h.rows r hr).drewN q).other (by omega) _ _
 cur:=by have:=(h.cur.drewN q).set c (.int .i64 (Z i c));rw[fH]at this;exact this
theorem XP.done {w:World}{n p:Nat}{Z:Nat->Nat->Int}{i:Nat}{W:World}(h:XP w n p Z i p W):jK w n p Z (i+1) W where
 size:=by rw[h.size];omega
 below:=h.below
 out:=h.out
 rows:=fun r hr=>by
  by_cases e:r=i
  ·subst e;exact h.cur
  ·exact h.rows r (by omega)
def yH (b n p:Nat) (Z:Nat->Nat->Int):Mat where
 ga:=some ⟨b,0,none⟩
 gb:=b
 go:=0
 cap:=n
 A:=fun r=>some ⟨b+1+r,0,none⟩
 C:=fun _=>p
 RB:=fun r=>b+1+r
 RO:=fun _=>0
 t:=⟨n,fun _=>p,Z⟩
theorem vE (fid:Nat)(cap:Array Value)(n p:Nat)(Z:Nat->Nat->Int)(w:World)(hn:n<=24)(hp:p<=24)
 (hcf:∀ (args:Array Value) (W:World),(callFunc fid args).run Tryz.prog W=.ok (.enter fid args) W)
 (hat:∀ (i k:Nat) (W:World),i<n->k<p->Below w.heap.size w W->Calls Tryz.prog fid (#[.int .i64 i,.int .i64 k] ++ cap) W fun e w'=>e=.returned (.int .i64 (Z i k))/\∃m,w'=W.drewN m) :
 Calls Tryz.prog 118 #[.int .i64 n,.int .i64 p,.func (.func fid) #[] cap] w fun e w'=>e=.returned (.slice (some ⟨w.heap.size,0,none⟩) n n)/\jK w n p Z n w':=by
 obtain⟨i1,p0,q0,s0,u0⟩:=info_parts Tryz.infoInt;obtain⟨i2,v0,w0,x0,y0⟩:=info_parts Tryz.infoInts;have h0:∀u:World,(Instr.makeSlice 22 (.int .i64 (n:Int)) (.int .i64 (n:Int))).run Tryz.prog u=.ok (.slice (some ⟨u.heap.size,0,none⟩) n n) (u.alloc (.cells (madeCells #[.slice none 0 0] n) 32)):=fun u=>by
  have h:=run_make (P:=Tryz.prog) u 22 32 i2 (.slice none 0 0) Tryz.underlying22 v0 w0 .i64 .i64 (n:Int) (n:Int) (by omega) (Int.le_refl _) (by rw[y0];omega) (by omega);simpa [x0,Value.cells] using h
 have i0:∀u:World,(Instr.makeSlice 32 (.int .i64 (p:Int)) (.int .i64 (p:Int))).run Tryz.prog u=.ok (.slice (some ⟨u.heap.size,0,none⟩) p p) (u.alloc (.cells (madeCells #[.int .i64 0] p) 3)):=fun u=>by
  have h:=run_make (P:=Tryz.prog) u 32 3 i1 (.int .i64 0) Tryz.underlying32 p0 q0 .i64 .i64 (p:Int) (p:Int) (by omega) (Int.le_refl _) (by rw[u0];omega) (by omega);simpa [s0,Value.cells] using h
 have HA:=hide hat;clear hat;go_enter Tryz.func118,Tryz.ntmps118;go_wp2
 go_loopw [14] (fun i wr=>∃k:Nat,k<=n/\i=.int .i64 k/\Hid (jK w n p Z k wr)) (fun i _=>n-(intOf i).toNat)
 case atStart=>exact⟨0,zL,rfl,hide (jK.start w n p Z)⟩
 case round =>
  obtain⟨i,hi,rfl,HT⟩:=hrel;have z0:=HT.out.size;by_cases d0:i<n
  ·have o0:=HT.out.out.cell i;rw[GD d0,if_neg (Nat.lt_irrefl _)]at o0;have j0:∀o,(wr.alloc o).cell? ⟨w.heap.size,i,none⟩=some (.slice none 0 0):=fun o=>by
    have:=(HT.out.out.alloc o).cell i;rw[GD d0,if_neg (Nat.lt_irrefl _)]at this;exact this
   have of:∀o,(wr.alloc o).frozen? ⟨w.heap.size,i,none⟩=false:=fun o=>(HT.out.out.alloc o).frozen i;have A0:(i:Int)<(n:Int):=by omega
   have f0:=HT.out.row.out.cell i;rw[GD d0,if_pos (by omega)]at f0;go_wp2_with fail;have HR:=hide HT.out.row;clear o0 j0 of f0
   go_loopw [27] (fun k wx=>∃c:Nat,c<=p/\k=.int .i64 c/\Hid (XP w n p Z i c wx)) (fun k _=>p-(intOf k).toNat)
   case atStart=>exact⟨0,zL,rfl,HR⟩
   case round =>
    obtain⟨c,hc,rfl,HJ⟩:=hrel;by_cases g0:c<p
    ·have o1:=HJ.out.out.cell i;rw[GD d0,if_pos (by omega)]at o1;have r1:=HJ.out.cur.cell c;rw[FD g0,if_neg (Nat.lt_irrefl _)]at r1;have rf:=HJ.out.cur.frozen c;have B0:(c:Int)<(p:Int):=by omega
     have HC:=hide (fun q=>HA.out i c (wr.drewN q) d0 g0 (below_drewN HJ.out.below q));have HK:=hide (fun q=>by have:=(HJ.out.put q).out.cell i;rw[GD d0,if_pos (by omega)]at this;exact this:∀q,((wr.drewN q).setCell ⟨w.heap.size+1+i,c,none⟩ (.int .i64 (Z i c))).cell? ⟨w.heap.size,i,none⟩=some (.slice (some ⟨w.heap.size+1+i,0,none⟩) p p));go_wp2_with fail
     go_region_held3 (fun w'=>w'.cell? ⟨w.heap.size,i,none⟩=some (.slice (some ⟨w.heap.size+1+i,0,none⟩) p p)) (first | go_keep | exact HK.out _)
      (first
       | (refine(HC.out 1).mono ?_;rintro e w' ⟨rfl,m,rfl⟩))
     have HP:=hide (HJ.out.put (1+m));go_wp2;go_roundw
     case rel=>exact⟨c+1,by omega,by go_num,HP⟩
     case measure=>simp[intOf];omega
    ·have k0:c=p:=by omega
     subst k0;have HD:=hide HJ.out.done;go_wp2;go_roundw
     case rel =>
      first
      | exact⟨i+1,by omega,by go_num,HD⟩
      | ((repeat apply Exists.intro);exact⟨⟨i+1,by omega,by go_num,HD⟩,rfl⟩)
     case measure=>simp[intOf];omega
  ·have m0:i=n:=by omega
   subst m0;go_wp2;go_ret;exact⟨rfl,HT.out⟩
end Go.Proofs.YtjhkadffaephmacGreat
