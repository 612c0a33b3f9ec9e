import Derived.Test.YtjhkadffaephmacGreatCutRestStatesDA
import Derived.Test.YtjhkadffaephmacGreatCutRestStatesDC
namespace Go.Proofs.YtjhkadffaephmacGreat
set_option maxHeartbeats 16000000
set_option maxRecDepth 100000
open Go.RowKit
theorem kJ (lo:Nat):gL.From lo:=⟨fun h=>absurd h (Nat.lt_irrefl _),fun _ h=>absurd h nZ,fun h=>absurd h (Nat.lt_irrefl _),lR⟩
theorem iJ (W:World):gL.Soft W:=⟨fun _ h=>absurd h nZ,fun h=>absurd h (Nat.lt_irrefl _)⟩
def mF (x:iA) (n:Net) (v:Ev):Int:=if x.err n≠0 then x.err n else x.eng.stepErr n v
theorem RL (n:dA)(x:iA)(v:EvM)(w:World)(h:n.In w.heap.size w)(hx:x.In w.heap.size w)(hv:v.In w.heap.size w):
 Calls Tryz.prog 13 #[n.val,x.val,v.val] w fun r w'=>(∃m:iA,r=.returned (.tuple #[m.val,.int .i64 (mF x n.net v.ev)])/\m.In w'.heap.size w'/\(mF x n.net v.ev=0->m.err n.net=0/\m.eng=x.eng.step n.net v.ev)/\m.From w.heap.size/\m.Soft w')/\Below w.heap.size w w':=by
 refine(JM n x v w h hx hv).mono ?_;rintro r w' ⟨hb,⟨h1,h2⟩ | ⟨h1,h2,h3⟩ | ⟨h1,h2,m,h3,h4,h5,h6,h7,_,h8⟩⟩
 ·have e:mF x n.net v.ev=x.err n.net:=by unfold mF;rw[if_pos h1]
  rw[e];exact⟨⟨gL,h2,jJ _ _,fun h0=>absurd h0 h1,kJ _,iJ _⟩,hb⟩
 ·have e:mF x n.net v.ev=x.eng.stepErr n.net v.ev:=by unfold mF;rw[if_neg (by omega)]
  rw[e];exact⟨⟨gL,h3,jJ _ _,fun h0=>absurd h0 h2,kJ _,iJ _⟩,hb⟩
 ·have e:mF x n.net v.ev=0:=by unfold mF;rw[if_neg (by omega)];exact h2
  rw[e];exact⟨⟨m,h3,h4,fun _=>⟨h6,h5⟩,h7,h8⟩,hb⟩
theorem BJ (n:dA)(x:iA)(v:EvM)(w:World)(h:n.In w.heap.size w)(hx:x.In w.heap.size w)(hv:v.In w.heap.size w)(he:x.err n.net=0)(hc:x.bag.bn<=x.bag.bc):
 Calls Tryz.prog 19 #[n.val,x.val,v.val] w fun r w'=>(∃m:iA,r=.returned (.tuple #[m.val,.int .i64 (mF x n.net v.ev)])/\m.In w'.heap.size w'/\(mF x n.net v.ev=0->m.err n.net=0/\m.eng=x.eng.step n.net v.ev))/\Below w.heap.size w w':=by
 have e:mF x n.net v.ev=x.eng.stepErr n.net v.ev:=by unfold mF;rw[if_neg (by omega)]
 rw[e];refine(AO n x v w h hx hv he hc).mono ?_;rintro r w' ⟨hb,⟨h1,h2⟩ | ⟨h1,m',e1,e2,e3,e4,_⟩⟩
 ·exact⟨⟨gL,h2,jJ _ _,fun h0=>absurd h0 h1⟩,hb⟩
 ·exact⟨⟨m',by rw[h1];exact e1,e2,fun _=>⟨e4,e3⟩⟩,hb⟩
theorem xJ (x y:Mat)(w:World)(hx:x.In w.heap.size w)(hy:y.In w.heap.size w)(hs:x.t.same y.t=true):
 Calls Tryz.prog 16 #[x.val,y.val] w fun e w'=>e=.returned (.bool true)/\Below w.heap.size w w':=by
 refine(dD x y w.heap.size w hx hy).mono ?_;rintro e w' ⟨rfl,m,rfl⟩;exact⟨by rw[hs],below_drewN (Below.refl _ _) m⟩
theorem EvM.In.grownR {v:EvM}{w w':World}(h:v.In w.heap.size w)(hb:Below w.heap.size w w'):v.In w'.heap.size w':=(h.below hb lR).mono hb.size
structure RA (w:World) (n:dA) (e:iA) (v:EvM) (p:fA) (W:World):Prop where
 below:Below w.heap.size w W
 bn:Blk W w.heap.size n.cells 27
 be:Blk W (w.heap.size+1) e.cells 31
 bv:Blk W (w.heap.size+1+1) v.cells 34
 bp:Blk W (w.heap.size+1+1+1) p.head.cells 37
theorem RA.keep {w:World}{n:dA}{e:iA}{v:EvM}{p:fA}{W W':World}(h:RA w n e v p W)(hb:Below W.heap.size W W'):RA w n e v p W' :=
 ⟨h.below.trans (hb.mono h.below.size),h.bn.below hb h.bn.lt,h.be.below hb h.be.lt,h.bv.below hb h.bv.lt,h.bp.below hb h.bp.lt⟩
structure RC (w:World) (n:dA) (e:iA) (v:EvM) (p:fA) (mi mb me:Mat) (W:World):Prop where
 ra:RA w n e v p W
 mi:mi.In W.heap.size W
 mb:mb.In W.heap.size W
 me:me.In W.heap.size W
theorem RC.keep {w:World}{n:dA}{e:iA}{v:EvM}{p:fA}{mi mb me:Mat}{W W':World}(h:RC w n e v p mi mb me W)(hb:Below W.heap.size W W'):RC w n e v p mi mb me W' :=
 ⟨h.ra.keep hb,h.mi.grown hb,h.mb.grown hb,h.me.grown hb⟩
def cpE (vs:List Value) (tB tE:Tab) (k:Nat) (v:Value) (W:World):Prop :=
 match k with
 | 3=>∃m:Mat,v=.slice m.ga m.t.len m.cap/\m.t=tB/\m.In W.heap.size W
 | 7=>∃m:Mat,v=.slice m.ga m.t.len m.cap/\m.t=tE/\m.In W.heap.size W
 | 8=>∃m:Mat,v=.slice m.ga m.t.len m.cap/\m.t=tB/\m.In W.heap.size W
 | 9=>∃m:Mat,v=.slice m.ga m.t.len m.cap/\m.t=tE/\m.In W.heap.size W
 | k=>vs[k]? = some v
section
variable {vs:List Value} {tB tE:Tab} {k:Nat} {v u:Value} {W W':World}
theorem XN (hb:Below W.heap.size W W')(h:cpE vs tB tE k v W):cpE vs tB tE k v W':=by
 unfold cpE at h |-;split at h <;> first | exact h | (obtain⟨m,h1,h2,h3⟩:=h;exact⟨m,h1,h2,h3.grown hb⟩)
theorem KG (h3:k≠3)(h7:k≠7)(h8:k≠8)(h9:k≠9)(h:vs[k]? = some v):cpE vs tB tE k v W:=by
 unfold cpE;split <;> first | contradiction | exact h
theorem LG (h:cpE vs tB tE k v W)(h3:k≠3)(h7:k≠7)(h8:k≠8)(h9:k≠9)(hu:vs[k]? = some u):v=u:=by
 unfold cpE at h;split at h <;> first | contradiction | (rw[hu]at h;exact(Option.some.inj h).symm)
theorem FU:cpE vs tB tE 3 v W↔∃m:Mat,v=.slice m.ga m.t.len m.cap/\m.t=tB/\m.In W.heap.size W:=Iff.rfl
theorem EU:cpE vs tB tE 7 v W↔∃m:Mat,v=.slice m.ga m.t.len m.cap/\m.t=tE/\m.In W.heap.size W:=Iff.rfl
theorem DU:cpE vs tB tE 8 v W↔∃m:Mat,v=.slice m.ga m.t.len m.cap/\m.t=tB/\m.In W.heap.size W:=Iff.rfl
theorem CU:cpE vs tB tE 9 v W↔∃m:Mat,v=.slice m.ga m.t.len m.cap/\m.t=tE/\m.In W.heap.size W:=Iff.rfl
end
structure RG (w:World) (n:dA) (e:iA) (v:EvM) (p:fA) (mi mb me:Mat) (bu:xA) (qb:Nat) (W:World):Prop where
 below:Below w.heap.size w W
 bn:Blk W w.heap.size n.cells 27
 be:Blk W (w.heap.size+1) e.cells 31
 bv:Blk W (w.heap.size+1+1) v.cells 34
 bp:Blk W (w.heap.size+1+1+1) p.head.cells 37
 bb:Blk W qb #[.int .i64 bu.size,.slice bu.B.ga bu.B.t.len bu.B.cap,.slice bu.E.ga bu.E.t.len bu.E.cap] 24
 mi:mi.In W.heap.size W
 mb:mb.In W.heap.size W
 me:me.In W.heap.size W
 bu:bu.In W.heap.size W
theorem xA.In.grownR {a:xA}{w w':World}(h:a.In w.heap.size w)(hb:Below w.heap.size w w'):a.In w'.heap.size w':=⟨h.B.grown hb,h.E.grown hb⟩
theorem RG.keep {w:World}{n:dA}{e:iA}{v:EvM}{p:fA}{mi mb me:Mat}{bu:xA}{qb:Nat}{W W':World}(h:RG w n e v p mi mb me bu qb W)(hb:Below W.heap.size W W'):RG w n e v p mi mb me bu qb W' :=
 ⟨h.below.trans (hb.mono h.below.size),h.bn.below hb h.bn.lt,h.be.below hb h.be.lt,h.bv.below hb h.bv.lt,h.bp.below hb h.bp.lt,h.bb.below hb h.bb.lt,h.mi.grown hb,h.mb.grown hb,h.me.grown hb,h.bu.grownR hb⟩
structure RB (lo:Nat) (ma ms mt:Mat) (mc:iA) (md:xA) (qc qd:Nat) (W:World):Prop where
 low:lo<=W.heap.size
 bc:Blk W qc #[.slice mc.rs.ga mc.rs.gn mc.rs.gc,.slice mc.bag.ba mc.bag.bn mc.bag.bc] 31
 bd:Blk W qd #[.int .i64 md.size,.slice md.B.ga md.B.t.len md.B.cap,.slice md.E.ga md.E.t.len md.E.cap] 24
 a:ma.In W.heap.size W
 s:ms.In W.heap.size W
 t:mt.In W.heap.size W
 c:mc.In W.heap.size W
 d:md.In W.heap.size W
 ah:ma.Sh W
 sh:ms.Sh W
 th:mt.Sh W
 dB:md.B.Sh W
 dE:md.E.Sh W
 ch:mc.Soft W
theorem iA.Soft.grown {m:iA}{W W':World}(h:m.Soft W)(hb:Below W.heap.size W W'):m.Soft W' :=
 ⟨fun i hi=>⟨fun h0=>((h.r i hi).1 h0).grown hb,(h.r i hi).2.grown hb⟩,fun h0=>by obtain⟨cs,hc⟩:=h.b h0;exact⟨cs,hc.below hb hc.lt⟩⟩
theorem RB.keep {lo:Nat}{ma ms mt:Mat}{mc:iA}{md:xA}{qc qd:Nat}{W W':World}(h:RB lo ma ms mt mc md qc qd W)(hb:Below W.heap.size W W'):RB lo ma ms mt mc md qc qd W' :=
 ⟨Nat.le_trans h.low hb.size,h.bc.below hb h.bc.lt,h.bd.below hb h.bd.lt,h.a.grown hb,h.s.grown hb,h.t.grown hb,h.c.grown hb,h.d.grownR hb,h.ah.tch (Tch.of_below hb h.low),h.sh.tch (Tch.of_below hb h.low),h.th.tch (Tch.of_below hb h.low),h.dB.tch (Tch.of_below hb h.low),h.dE.tch (Tch.of_below hb h.low),h.ch.grown hb⟩
theorem Tch.slice {lo b i l c:Nat}{a:Option Addr}{W W':World}(h:Tch lo W W')(hb:b<W.heap.size)(hc:W.cell? ⟨b,i,none⟩=some (.slice a l c)):W'.cell? ⟨b,i,none⟩=some (.slice a l c):=by
 rcases h.cell b i hb with e | ⟨z,z',e1,_⟩
 ·rw[e];exact hc
 ·rw[hc]at e1;cases e1
def YL (q:Nat) (r:BB):Mat:=⟨some ⟨q,0,none⟩,q,0,1,fun _=>r.ra,fun _=>r.rc,fun _=>r.rb,fun _=>r.ro,⟨1,fun _=>r.rl,fun _=>r.R⟩⟩
theorem IQ {r:BB}{q lo:Nat}{W W':World}(hr:r.In W.heap.size W)(hs:0<r.rl->yB W r.rb)(ht:Tch lo W W')(hq:Blk W' q #[.slice r.ra r.rl r.rc] 32):(YL q r).Sh W':=by
 refine⟨fun _=>rfl,fun _=>hq.lt,fun i hi=>?_,fun i hi h0=>⟨hr.ints.addr h0,ht.lies _ (hs h0)⟩,fun i hi c hc=>?_,by show 1<=maxLen;unfold maxLen;omega,fun _ _=>hr.ints.len⟩
 ·have:i<1:=hi;obtain rfl:i=0:=by omega
  exact hq.cell (0+0)
 ·have h0:0<r.rl:=Nat.lt_of_le_of_lt zL hc;rcases ht.cell r.rb (r.ro+c) (hs h0).lt with e | ⟨z,z',_,e2⟩
  ·exact⟨_,e.trans (hr.ints.cell c hc)⟩
  ·exact⟨z',e2⟩
theorem uN {r:BB}{q lo:Nat}(hq:lo<=q)(hr:0<r.rl->lo<=r.rb):(YL q r).From lo:=⟨fun _=>hq,fun _ _ h0=>hr h0⟩
structure BG (lo:Nat) (mc:iA) (qc:Nat) (W9 W:World):Prop where
 below:Below lo W9 W
 bc:Blk W qc #[.slice mc.rs.ga mc.rs.gn mc.rs.gc,.slice mc.bag.ba mc.bag.bn mc.bag.bc] 31
 bag:0<mc.bag.bn->∃cs,Blk W mc.bag.bb cs 59/\∀i,i<mc.bag.bn->mc.bag.bo+i*3+2<cs.size
theorem BG.start {lo:Nat}{ma ms mt:Mat}{mc:iA}{md:xA}{qc qd:Nat}{W9 W:World}(h:RB lo ma ms mt mc md qc qd W9)(ht:Tch lo W9 W):BG lo mc qc W9 W:=by
 refine⟨ht.below,ht.rest _ _ _ h.bc (by decide),fun h0=>?_⟩;obtain⟨cs,hc⟩:=h.ch.b h0;refine⟨cs,ht.rest _ _ _ hc (by decide),fun i hi=>?_⟩;have h1:=h.c.bag.c2 i hi;rw[hc.cell]at h1;exact(Array.getElem?_eq_some_iff.1 h1).1
theorem BG.put {lo:Nat}{mc:iA}{qc:Nat}{W9 W:World}(h:BG lo mc qc W9 W)(h0:0<mc.bag.bn)(hl:lo<=mc.bag.bb)(j:Nat)(v:Value):BG lo mc qc W9 (W.setCell ⟨mc.bag.bb,j,none⟩ v):=by
 obtain⟨cs,hc,hs⟩:=h.bag h0;exact⟨h.below.setCell (p:=⟨mc.bag.bb,j,none⟩) hl v,h.bc.other (eB h.bc hc (by decide)) _ _,fun _=>⟨_,hc.set j v,fun i hi=>by simpa using hs i hi⟩⟩
def aD (s1 s2 p q:Nat):Nat:=if p<s1/\q<s2 then p*s2+q else s1*s2
theorem AQ {s1 s2 p q i:Nat}(hi:i<s1*s2)(hs:0<s2)(hp:i / s2=p)(hq:i % s2=q):aD s1 s2 p q=i:=by
 subst hp;subst hq;unfold aD;rw[if_pos ⟨by rw[Nat.div_lt_iff_lt_mul hs];exact hi,Nat.mod_lt _ hs⟩];exact Nat.div_add_mod' i s2
theorem oN {s1 s2 p q:Nat}(hs:0<s2)(h:∀i,i<s1*s2->¬ (i / s2=p/\i % s2=q)):aD s1 s2 p q=s1*s2:=by
 unfold aD;by_cases hc:p<s1/\q<s2
 ·exfalso;refine h (p*s2+q) ?_ ⟨?_,?_⟩
  ·have:(p+1)*s2<=s1*s2:=Nat.mul_le_mul_right _ (by omega);rw[Nat.succ_mul]at this;omega
  ·rw[Nat.mul_comm,Nat.mul_add_div hs,Nat.div_eq_of_lt hc.2];rfl
  ·rw[Nat.mul_comm,Nat.mul_add_mod,Nat.mod_eq_of_lt hc.2]
 ·rw[if_neg hc]
structure pK (s1 s2 b9 b5 b6 gp gq cp cq:Nat) (W:World):Prop where
 last:W.cell? ⟨b9,0,none⟩=some (.int .i64 ((s1*s2:Nat):Int))
 ps:W.cell? ⟨b5,0,none⟩=some (.slice (some ⟨gp,0,none⟩) (s1*s2) cp)
 qs:W.cell? ⟨b6,0,none⟩=some (.slice (some ⟨gq,0,none⟩) (s1*s2) cq)
 pc:∀i,i<s1*s2->W.cell? ⟨gp,i,none⟩=some (.int .i64 ((i / s2:Nat):Int))
 qc:∀i,i<s1*s2->W.cell? ⟨gq,i,none⟩=some (.int .i64 ((i % s2:Nat):Int))
theorem rT (s1 s2 b9 b5 b6 gp gq cp cq p q:Nat)(W:World)(h:pK s1 s2 b9 b5 b6 gp gq cp cq W)(hs:0<s2)(h24:s1*s2<=24):
 Calls Tryz.prog 104 #[.int .i64 p,.int .i64 q,.pointer (some ⟨b9,0,none⟩),.pointer (some ⟨b5,0,none⟩),.pointer (some ⟨b6,0,none⟩)] W fun e w'=>e=.returned (.int .i64 ((aD s1 s2 p q:Nat):Int))/\w'=W:=by
 have:=h.last;have:=h.ps;have:=h.qs;have HF:=hide (fun i (hi:i<s1*s2) (hp:i / s2=p) (hq:i % s2=q)=>AQ hi hs hp hq);have HN:=hide (fun (hh:∀i,i<s1*s2->¬ (i / s2=p/\i % s2=q))=>oN (p:=p) (q:=q) hs hh);have HC:=hide (fun i (hi:i<s1*s2)=>And.intro (h.pc i hi) (h.qc i hi));clear h;generalize aD s1 s2 p q=res at *;generalize s1*s2=inv at *;go_enter Tryz.func104,Tryz.ntmps104;go_wp2
 go_loop [8] (fun i=>∃k:Nat,k<=inv/\i=.int .i64 k/\Hid (∀r,r<k->¬ (r / s2=p/\r % s2=q))) (fun i=>inv-(intOf i).toNat)
 case atStart=>exact⟨0,zL,rfl,hide fun r hr=>absurd hr nZ⟩
 case round =>
  obtain⟨k,hk,rfl,d0⟩:=hrel;by_cases g0:k<inv
  ·obtain⟨pc,qc⟩:=HC.out k g0;have:(k:Int)<(inv:Int):=by omega
   have Hf:=hide (HF.out k g0);have f0:Hid (¬ (k / s2=p/\k % s2=q)->∀r,r<k+1->¬ (r / s2=p/\r % s2=q)):=hide (fun hn r hr=>by
    by_cases e:r=k
    ·subst e;exact hn
    ·exact d0.out r (by omega))
   generalize k / s2=kp at *;generalize k % s2=kq at *;by_cases e1:kp=p
   ·have f1:((kp:Int) == (p:Int))=true:=by simp[e1]
    by_cases e2:kq=q
    ·have f2:((kq:Int) == (q:Int))=true:=by simp[e2]
     have Hr:=hide (Hf.out e1 e2);clear e1 e2;go_wp2;go_ret;exact⟨by rw[Hr.out];rfl,rfl⟩
    ·have f2:((kq:Int) == (q:Int))=false:=by simp;omega
     have Hr:=hide (f0.out (fun hh=>e2 hh.2));clear e1 e2;go_wp2
     go_round
     case rel=>exact⟨k+1,by omega,by go_num,Hr⟩
     case measure=>simp[intOf];omega
   ·have f1:((kp:Int) == (p:Int))=false:=by simp;omega
    have Hr:=hide (f0.out (fun hh=>e1 hh.1));clear e1;go_wp2
    go_round
    case rel=>exact⟨k+1,by omega,by go_num,Hr⟩
    case measure=>simp[intOf];omega
  ·have Hr:=hide (HN.out (fun i hi=>d0.out i (by omega)));go_wp2;go_ret;exact⟨by rw[Hr.out];rfl,rfl⟩
structure Half (base B0 bx:Nat) (V:Value) (k:Nat) (f:Nat->Int) (dl dm db da ds:Bool) (tl tm tb ta:Value) (W:World):Prop where
 c0:ds=false->Blk W bx #[V] 32
 c1:ds=true->Blk W bx #[ta] 32
 own:da=false->W.ownsRow base 3 1 V k (JA f k)
 l:dl=true->tl=V
 m:dm=true->tm=.int .i64 (f k)
 b:db=true->∃b,tb=.slice (some ⟨b,0,none⟩) 1 1/\B0<=b/\Blk W b #[.int .i64 (f k)] 3
 a:da=true->∃g c,ta=.slice (some ⟨g,0,none⟩) (k+1) c/\W.ownsRow base 3 1 (.slice (some ⟨g,0,none⟩) (k+1) c) (k+1) (JA f (k+1))/\(V.ownBlock=some g\/B0<=g)
 sa:ds=true->da=true
 sl:ds=true->dl=true
section
variable {base B0 bx:Nat} {V:Value} {k:Nat} {f:Nat->Int} {dl dm db da ds:Bool} {tl tm tb ta:Value} {W W':World}
theorem OB {B:Nat}{vs:Array Value}{t:TypeId}{row:Option Nat}(h:Blk W B vs t)(hg:W.grownBy W' row)(hne:row≠some B):Blk W' B vs t:=h.kept hg (Ne.symm hne)
theorem Half.kept (h:Half base B0 bx V k f dl dm db da ds tl tm tb ta W){row:Option Nat}(hg:W.grownBy W' row)(hr:∀j,row=some j->j≠bx/\j<B0/\V.ownBlock≠some j):Half base B0 bx V k f dl dm db da ds tl tm tb ta W' where
 c0:=fun e=>OB (h.c0 e) hg (fun e'=>(hr bx e').1 rfl)
 c1:=fun e=>OB (h.c1 e) hg (fun e'=>(hr bx e').1 rfl)
 own:=fun e=>(h.own e).kept hg (by
  cases hv:V.ownBlock with
  | none=>exact Or.inl rfl
  | some j=>exact Or.inr (fun e'=>(hr j e'.symm).2.2 hv))
 l:=h.l
 m:=h.m
 b:=fun e=>by
  obtain⟨b,h1,h2,h3⟩:=h.b e;exact⟨b,h1,h2,OB h3 hg (fun e'=>by have:=(hr b e').2.1;omega)⟩
 a:=fun e=>by
  obtain⟨g,c,h1,h2,h3⟩:=h.a e;refine⟨g,c,h1,h2.kept hg (Or.inr (fun e'=>?_)),h3⟩;have:=hr g e'.symm;rcases h3 with h3 | h3
  ·exact this.2.2 h3
  ·have:=this.2.1;omega
 sa:=h.sa
 sl:=h.sl
theorem Half.stepL (h:Half base B0 bx V k f dl dm db da ds tl tm tb ta W):Half base B0 bx V k f true dm db da ds V tm tb ta W :=
 ⟨h.c0,h.c1,h.own,fun _=>rfl,h.m,h.b,h.a,h.sa,fun _=>rfl⟩
theorem Half.stepM (h:Half base B0 bx V k f dl dm db da ds tl tm tb ta W){v:Value}(hv:v=.int .i64 (f k)):Half base B0 bx V k f dl true db da ds tl v tb ta W :=
 ⟨h.c0,h.c1,h.own,h.l,fun _=>hv,h.b,h.a,h.sa,h.sl⟩
theorem Half.stepB (h:Half base B0 bx V k f dl dm db da ds tl tm tb ta W)(hB:B0<=W.heap.size):Half base B0 bx V k f dl dm true da ds tl tm (.slice (some ⟨W.heap.size,0,none⟩) 1 1) ta (W.alloc (.cells #[.int .i64 (f k)] 3)):=by
 have h':=h.kept (World.grownBy_alloc W (.cells #[.int .i64 (f k)] 3) none) (fun j hj=>by cases hj);exact⟨h'.c0,h'.c1,h'.own,h'.l,h'.m,fun _=>⟨_,rfl,hB,Blk.new W _ _⟩,h'.a,h'.sa,h'.sl⟩
theorem Half.stepA (h:Half base B0 bx V k f dl dm db false false tl tm tb ta W)(hbx:bx<base){g c:Nat}(hg:W.grownBy W' V.ownBlock)(hown:W'.ownsRow base 3 1 (.slice (some ⟨g,0,none⟩) (k+1) c) (k+1) (JA f k ++ [.int .i64 (f k)]))(hat:V.ownBlock=some g\/g=W.heap.size)(hB:B0<=W.heap.size)(hV:∀j,V.ownBlock=some j->j<B0):Half base B0 bx V k f dl dm db true false tl tm tb (.slice (some ⟨g,0,none⟩) (k+1) c) W' where
 c0:=fun e=>OB (h.c0 e) hg (fun e'=>by have:=((h.own rfl).lt bx e').1;omega)
 c1:=fun e=>by cases e
 own:=fun e=>by cases e
 l:=h.l
 m:=h.m
 b:=fun e=>by
  obtain⟨b,h1,h2,h3⟩:=h.b e;exact⟨b,h1,h2,OB h3 hg (fun e'=>by have:=hV b e';omega)⟩
 a:=fun _=>⟨g,c,rfl,by rw[OA];exact hown,by rcases hat with h | h;exact Or.inl h;exact Or.inr (by omega)⟩
 sa:=fun e=>by cases e
 sl:=fun e=>by cases e
theorem Half.stepS (h:Half base B0 bx V k f dl dm db true false tl tm tb ta W)(hbx:bx<base)(hbB:base<=B0)(hdl:dl=true):Half base B0 bx V k f dl dm db true true tl tm tb ta (W.setCell ⟨bx,0,none⟩ ta):=by
 have hg:W.grownBy (W.setCell ⟨bx,0,none⟩ ta) (some bx):=⟨rfl,rfl,rfl,by simp,fun j _ hne=>by
  show (W.heap.modify bx _)[j]? = _;rw[Array.getElem?_modify,if_neg (fun e=>hne (by rw[e]))]⟩
 refine⟨fun e=>(by cases e),fun _=>(by simpa using (h.c0 rfl).set 0 ta),fun e=>(by cases e),h.l,h.m,fun e=>?_,fun e=>?_,fun _=>rfl,fun _=>hdl⟩
 ·obtain⟨b,h1,h2,h3⟩:=h.b e;exact⟨b,h1,h2,OB h3 hg (fun e'=>by have:bx=b:=(by simpa using e');omega)⟩
 ·obtain⟨g,c,h1,h2,h3⟩:=h.a e;refine⟨g,c,h1,h2.kept hg (Or.inr (fun e'=>?_)),h3⟩;have hb:=(h2.lt g rfl).1;have:g=bx:=by simpa [Value.ownBlock] using e'
  omega
end
structure PQI (base B0 b5 b6:Nat) (V5 V6:Value) (k:Nat) (f5 f6:Nat->Int) (W0:World) (d:Nat->Bool) (t:Nat->Value) (W:World):Prop where
 below:Below b5 W0 W
 size:B0<=W.heap.size
 h5:Half base B0 b5 V5 k f5 (d 0) (d 1) (d 2) (d 3) (d 8) (t 0) (t 1) (t 2) (t 3) W
 h6:Half base B0 b6 V6 k f6 (d 4) (d 5) (d 6) (d 7) (d 9) (t 4) (t 5) (t 6) (t 7) W
 ne:d 3=true->d 7=true->(t 3).ownBlock≠(t 7).ownBlock
structure PQ (base b5 b6:Nat) (V5 V6:Value) (k:Nat) (f5 f6:Nat->Int) (W:World):Prop where
 c5:Blk W b5 #[V5] 32
 c6:Blk W b6 #[V6] 32
 o5:W.ownsRow base 3 1 V5 k (JA f5 k)
 o6:W.ownsRow base 3 1 V6 k (JA f6 k)
 ne:∀j,V5.ownBlock=some j->V6.ownBlock≠some j
theorem PQ.start {base b5 b6:Nat}{V5 V6:Value}{k:Nat}{f5 f6:Nat->Int}{W0 W:World}(h:PQ base b5 b6 V5 V6 k f5 f6 W)(hb:Below b5 W0 W)(t:Nat->Value):PQI base W.heap.size b5 b6 V5 V6 k f5 f6 W0 (fun _=>false) t W.drew where
 below:=hb.trans ⟨rfl,rfl,rfl,lR,fun _ _=>rfl⟩
 size:=lR
 h5:=⟨fun _=>h.c5,fun e=>(by cases e),fun _=>h.o5,fun e=>(by cases e),fun e=>(by cases e),fun e=>(by cases e),fun e=>(by cases e),fun e=>(by cases e),fun e=>(by cases e)⟩
 h6:=⟨fun _=>h.c6,fun e=>(by cases e),fun _=>h.o6,fun e=>(by cases e),fun e=>(by cases e),fun e=>(by cases e),fun e=>(by cases e),fun e=>(by cases e),fun e=>(by cases e)⟩
 ne:=fun e=>(by cases e)
theorem PQI.done {base B0 b5 b6:Nat}{V5 V6:Value}{k:Nat}{f5 f6:Nat->Int}{W0 W:World}{d:Nat->Bool}{t:Nat->Value}(h:PQI base B0 b5 b6 V5 V6 k f5 f6 W0 d t W)(hd:∀i,i<10->d i=true):PQ base b5 b6 (t 3) (t 7) (k+1) f5 f6 W:=by
 obtain⟨g5,q5,e5,o5,_⟩:=h.h5.a (hd 3 (by omega));obtain⟨g6,q6,e6,o6,_⟩:=h.h6.a (hd 7 (by omega));refine⟨h.h5.c1 (hd 8 (by omega)),h.h6.c1 (hd 9 (by omega)),by rw[e5];exact o5,by rw[e6];exact o6,fun j h1 h2=>?_⟩;exact h.ne (hd 3 (by omega)) (hd 7 (by omega)) (by rw[h1,h2])
theorem TJ {base B0 bx:Nat}{V V':Value}{k:Nat}{f:Nat->Int}{dl dm db da ds:Bool}{tl tm tb ta:Value}{W W':World}
 (h:Half base B0 bx V k f dl dm db da ds tl tm tb ta W) (hg:W.grownBy W' V'.ownBlock) (hV:∀j,V'.ownBlock=some j->base<=j/\j<B0/\V.ownBlock≠some j) (hbx:bx<base):Half base B0 bx V k f dl dm db da ds tl tm tb ta W' :=
 h.kept hg (fun j hj=>⟨by have:=hV j hj;omega,(hV j hj).2.1,(hV j hj).2.2⟩)
def NC (x:FB) (lo hi:Nat) (VB VE:Value) (w:World):Prop :=
 ∃mid,lo<=mid/\mid<=hi/\BA lo mid VB x.size x.size (fun r c=>(x.best r c:Int)) w/\BA mid hi VE x.el x.size (fun r c=>(x.edge r c:Int)) w
theorem NC.kept {x:FB}{lo hi:Nat}{VB VE:Value}{w w':World}{row:Option Nat}(h:NC x lo hi VB VE w)(hg:w.grownBy w' row)(hr:∀k,row=some k->k<lo\/hi<=k):NC x lo hi VB VE w':=by
 obtain⟨mid,h1,h2,h3,h4⟩:=h;refine⟨mid,h1,h2,h3.kept hg (fun k hk=>?_),h4.kept hg (fun k hk=>?_)⟩
 ·rcases hr k hk with h | h <;> omega
 ·rcases hr k hk with h | h <;> omega
theorem NC.below {x:FB}{lo hi:Nat}{VB VE:Value}{w w':World}(h:NC x lo hi VB VE w)(hb:Below w.heap.size w w'):NC x lo hi VB VE w' :=
 h.kept (below_grown hb) (fun k hk=>by cases hk)
def iQ (x:FB) (b:Nat) (e:Ending) (w':World):Prop :=
 ∃VB VE,e=.returned (.agg #[.int .i64 x.size,VB,VE])/\NC x b w'.heap.size VB VE w'
section
variable {base B0 b5 b6:Nat} {V5 V6:Value} {k:Nat} {f5 f6:Nat->Int} {W0 W W':World} {d:Nat->Bool} {t:Nat->Value}
structure mK (base B0 b5 b6:Nat) (V5 V6:Value):Prop where
 l5:b5<base
 l6:b6<base
 n:b5<b6
 bB:base<=B0
 v5:∀j,V5.ownBlock=some j->base<=j/\j<B0
 v6:∀j,V6.ownBlock=some j->base<=j/\j<B0
 ne:∀j,V5.ownBlock=some j->V6.ownBlock≠some j
theorem PQI.l0 (h:PQI base B0 b5 b6 V5 V6 k f5 f6 W0 d t W):PQI base B0 b5 b6 V5 V6 k f5 f6 W0 (NA d 0) (upd t 0 V5) W:=⟨h.below,h.size,h.h5.stepL,h.h6,h.ne⟩
theorem PQI.l4 (h:PQI base B0 b5 b6 V5 V6 k f5 f6 W0 d t W):PQI base B0 b5 b6 V5 V6 k f5 f6 W0 (NA d 4) (upd t 4 V6) W:=⟨h.below,h.size,h.h5,h.h6.stepL,h.ne⟩
theorem PQI.m1 (h:PQI base B0 b5 b6 V5 V6 k f5 f6 W0 d t W){v:Value}(hv:v=.int .i64 (f5 k)):PQI base B0 b5 b6 V5 V6 k f5 f6 W0 (NA d 1) (upd t 1 v) W:=⟨h.below,h.size,h.h5.stepM hv,h.h6,h.ne⟩
theorem PQI.m5 (h:PQI base B0 b5 b6 V5 V6 k f5 f6 W0 d t W){v:Value}(hv:v=.int .i64 (f6 k)):PQI base B0 b5 b6 V5 V6 k f5 f6 W0 (NA d 5) (upd t 5 v) W:=⟨h.below,h.size,h.h5,h.h6.stepM hv,h.ne⟩
theorem PQI.s2 (h:PQI base B0 b5 b6 V5 V6 k f5 f6 W0 d t W)(hx:mK base B0 b5 b6 V5 V6):PQI base B0 b5 b6 V5 V6 k f5 f6 W0 (NA d 2) (upd t 2 (.slice (some ⟨W.heap.size,0,none⟩) 1 1)) (W.alloc (.cells #[.int .i64 (f5 k)] 3)) :=
 ⟨h.below.alloc (by have:=h.size;have:=hx.bB;have:=hx.l5;omega) _,by have:=h.size;simp;omega,h.h5.stepB h.size,h.h6.kept (World.grownBy_alloc W _ none) (fun j hj=>by cases hj),h.ne⟩
theorem PQI.s6 (h:PQI base B0 b5 b6 V5 V6 k f5 f6 W0 d t W)(hx:mK base B0 b5 b6 V5 V6):PQI base B0 b5 b6 V5 V6 k f5 f6 W0 (NA d 6) (upd t 6 (.slice (some ⟨W.heap.size,0,none⟩) 1 1)) (W.alloc (.cells #[.int .i64 (f6 k)] 3)) :=
 ⟨h.below.alloc (by have:=h.size;have:=hx.bB;have:=hx.l5;omega) _,by have:=h.size;simp;omega,h.h5.kept (World.grownBy_alloc W _ none) (fun j hj=>by cases hj),h.h6.stepB h.size,h.ne⟩
theorem PQI.app3 (h:PQI base B0 b5 b6 V5 V6 k f5 f6 W0 d t W)(hx:mK base B0 b5 b6 V5 V6)(hd:d 3=false){g c:Nat}(hg:W.grownBy W' V5.ownBlock)(hown:W'.ownsRow base 3 1 (.slice (some ⟨g,0,none⟩) (k+1) c) (k+1) (JA f5 k ++ [.int .i64 (f5 k)]))(hat:V5.ownBlock=some g\/g=W.heap.size):
 PQI base B0 b5 b6 V5 V6 k f5 f6 W0 (NA d 3) (upd t 3 (.slice (some ⟨g,0,none⟩) (k+1) c)) W':=by
 have h5:=h.h5;have d8:d 8=false:=by
  cases h8:d 8 with
  | false=>rfl
  | true=>have:=h5.sa h8;rw[hd]at this;cases this
 rw[hd,d8]at h5;refine⟨h.below.trans (nA hg (fun j hj=>by have:=(hx.v5 j hj).1;have:=hx.l5;omega) (by have:=h.size;have:=hx.bB;have:=hx.l5;omega)),Nat.le_trans h.size hg.size,?_,?_,?_⟩
 ·show Half base B0 b5 V5 k f5 (d 0) (d 1) (d 2) true (d 8) (t 0) (t 1) (t 2) _ W';rw[d8];exact h5.stepA hx.l5 hg hown hat h.size (fun j hj=>(hx.v5 j hj).2)
 ·exact TJ h.h6 hg (fun j hj=>⟨(hx.v5 j hj).1,(hx.v5 j hj).2,hx.ne j hj⟩) hx.l6
 ·intro _ d7;obtain⟨g6,c6,e6,o6,a6⟩:=h.h6.a d7;show Value.ownBlock (.slice (some ⟨g,0,none⟩) (k+1) c)≠(t 7).ownBlock;rw[e6];intro e;have eg:g=g6:=by simpa [Value.ownBlock] using e
  subst eg;have:=(o6.lt g rfl).2;rcases hat with h1 | h1
  ·rcases a6 with h2 | h2
   ·exact hx.ne g h1 h2
   ·have:=(hx.v5 g h1).2;omega
  ·omega
theorem PQI.app7 (h:PQI base B0 b5 b6 V5 V6 k f5 f6 W0 d t W)(hx:mK base B0 b5 b6 V5 V6)(hd:d 7=false){g c:Nat}(hg:W.grownBy W' V6.ownBlock)(hown:W'.ownsRow base 3 1 (.slice (some ⟨g,0,none⟩) (k+1) c) (k+1) (JA f6 k ++ [.int .i64 (f6 k)]))(hat:V6.ownBlock=some g\/g=W.heap.size):
 PQI base B0 b5 b6 V5 V6 k f5 f6 W0 (NA d 7) (upd t 7 (.slice (some ⟨g,0,none⟩) (k+1) c)) W':=by
 have h6:=h.h6;have d9:d 9=false:=by
  cases h9:d 9 with
  | false=>rfl
  | true=>have:=h6.sa h9;rw[hd]at this;cases this
 rw[hd,d9]at h6;refine⟨h.below.trans (nA hg (fun j hj=>by have:=(hx.v6 j hj).1;have:=hx.l5;omega) (by have:=h.size;have:=hx.bB;have:=hx.l5;omega)),Nat.le_trans h.size hg.size,?_,?_,?_⟩
 ·exact TJ h.h5 hg (fun j hj=>⟨(hx.v6 j hj).1,(hx.v6 j hj).2,fun e=>hx.ne j e hj⟩) hx.l5
 ·show Half base B0 b6 V6 k f6 (d 4) (d 5) (d 6) true (d 9) (t 4) (t 5) (t 6) _ W';rw[d9];exact h6.stepA hx.l6 hg hown hat h.size (fun j hj=>(hx.v6 j hj).2)
 ·intro d3 _;obtain⟨g5,c5,e5,o5,a5⟩:=h.h5.a d3;show (t 3).ownBlock≠Value.ownBlock (.slice (some ⟨g,0,none⟩) (k+1) c);rw[e5];intro e;have eg:g5=g:=by simpa [Value.ownBlock] using e
  subst eg;have:=(o5.lt g5 rfl).2;rcases hat with h1 | h1
  ·rcases a5 with h2 | h2
   ·exact hx.ne g5 h2 h1
   ·have:=(hx.v6 g5 h1).2;omega
  ·omega
theorem PQI.st8 (h:PQI base B0 b5 b6 V5 V6 k f5 f6 W0 d t W)(hx:mK base B0 b5 b6 V5 V6)(hd:d 8=false)(d0:d 0=true)(d3:d 3=true)(v:Value):PQI base B0 b5 b6 V5 V6 k f5 f6 W0 (NA d 8) (upd t 8 v) (W.setCell ⟨b5,0,none⟩ (t 3)):=by
 have h5:=h.h5;rw[hd,d3]at h5;have hg:W.grownBy (W.setCell ⟨b5,0,none⟩ (t 3)) (some b5):=⟨rfl,rfl,rfl,by simp,fun j _ hne=>by
  show (W.heap.modify b5 _)[j]? = _;rw[Array.getElem?_modify,if_neg (fun e=>hne (by rw[e]))]⟩
 refine⟨h.below.setCell (p:=⟨b5,0,none⟩) lR _,by simpa using h.size,?_,?_,h.ne⟩
 ·show Half base B0 b5 V5 k f5 (d 0) (d 1) (d 2) (d 3) true (t 0) (t 1) (t 2) (t 3) _;rw[d3];exact h5.stepS hx.l5 hx.bB d0
 ·exact h.h6.kept hg (fun j hj=>by
   have e:b5=j:=by simpa using hj
   subst e;have:=hx.n;have:=hx.l5;have:=hx.bB;exact⟨by omega,by omega,fun e=>by have:=(hx.v6 b5 e).1;omega⟩)
theorem PQI.st9 (h:PQI base B0 b5 b6 V5 V6 k f5 f6 W0 d t W)(hx:mK base B0 b5 b6 V5 V6)(hd:d 9=false)(d4:d 4=true)(d7:d 7=true)(v:Value):PQI base B0 b5 b6 V5 V6 k f5 f6 W0 (NA d 9) (upd t 9 v) (W.setCell ⟨b6,0,none⟩ (t 7)):=by
 have h6:=h.h6;rw[hd,d7]at h6;have hg:W.grownBy (W.setCell ⟨b6,0,none⟩ (t 7)) (some b6):=⟨rfl,rfl,rfl,by simp,fun j _ hne=>by
  show (W.heap.modify b6 _)[j]? = _;rw[Array.getElem?_modify,if_neg (fun e=>hne (by rw[e]))]⟩
 refine⟨h.below.setCell (p:=⟨b6,0,none⟩) (by show b5<=b6;have:=hx.n;omega) _,by simpa using h.size,?_,?_,h.ne⟩
 ·exact h.h5.kept hg (fun j hj=>by
   have e:b6=j:=by simpa using hj
   subst e;have:=hx.n;have:=hx.l6;have:=hx.bB;exact⟨by omega,by omega,fun e=>by have:=(hx.v5 b6 e).1;omega⟩)
 ·show Half base B0 b6 V6 k f6 (d 4) (d 5) (d 6) (d 7) true (t 4) (t 5) (t 6) (t 7) _;rw[d7];exact h6.stepS hx.l6 hx.bB d4
end
theorem Tryz.infoAlg:(Tryz.prog.info? 24).map (fun i=>(i.zero,i.size,i.bytes))=some (some (.agg #[.int .i64 0,.slice none 0 0,.slice none 0 0]),3,56):=by kernel_rfl
def qH (sz:Nat->Nat) (VB VE:Nat->Value):Nat->List Value
 | 0=>[]
 | k+1=>qH sz VB VE k ++ [.int .i64 (sz k),VB k,VE k]
theorem NE (sz:Nat->Nat)(VB VE:Nat->Value)(k:Nat):(qH sz VB VE k).length=k*3:=by
 induction k with
 | zero=>rfl
 | succ k ih=>simp[qH,ih];omega
theorem iK (sz:Nat->Nat)(VB VE:Nat->Value){k i:Nat}(h:i<k):(qH sz VB VE k)[i*3]? = some (.int .i64 (sz i))/\(qH sz VB VE k)[i*3+1]? = some (VB i)/\(qH sz VB VE k)[i*3+2]? = some (VE i):=by
 induction k with
 | zero=>omega
 | succ k ih =>
  simp only[qH];by_cases e:i=k
  ·subst e;rw[List.getElem?_append_right (by rw[NE];omega),List.getElem?_append_right (by rw[NE];omega),List.getElem?_append_right (by rw[NE];omega),NE];simp
  ·rw[List.getElem?_append_left (by rw[NE];omega),List.getElem?_append_left (by rw[NE];omega),List.getElem?_append_left (by rw[NE];omega)];exact ih (by omega)
theorem WP {sz sz':Nat->Nat}{VB VE VB' VE':Nat->Value}{k:Nat}(h:∀j,j<k->sz j=sz' j/\VB j=VB' j/\VE j=VE' j):qH sz VB VE k=qH sz' VB' VE' k:=by
 induction k with
 | zero=>rfl
 | succ k ih =>
  simp only[qH];obtain⟨h1,h2,h3⟩:=h k (by omega);rw[ih (fun j hj=>h j (by omega)),h1,h2,h3]
structure PE (base:Nat) (x:Nat->FB) (k:Nat) (v:Value) (VB VE:Nat->Value) (lo hi:Nat->Nat) (w:World):Prop where
 row:w.ownsRow base 24 3 v k (qH (fun j=>(x j).size) VB VE k)
 tabs:∀j,j<k->NC (x j) (lo j) (hi j) (VB j) (VE j) w
 top:∀j,j<k->base<=lo j/\hi j<=w.heap.size
 apart:∀j,j<k->∀g,v.ownBlock=some g->g<lo j\/hi j<=g
theorem PE.nil (base:Nat)(x:Nat->FB)(VB VE:Nat->Value)(lo hi:Nat->Nat)(w:World):PE base x 0 (.slice none 0 0) VB VE lo hi w :=
 ⟨World.ownsRow_nil _ _ _ _,fun _ hj=>absurd hj nZ,fun _ hj=>absurd hj nZ,fun _ hj=>absurd hj nZ⟩
theorem PE.below {base:Nat}{x:Nat->FB}{k:Nat}{v:Value}{VB VE:Nat->Value}{lo hi:Nat->Nat}{w w':World}(h:PE base x k v VB VE lo hi w)(hb:Below w.heap.size w w'):PE base x k v VB VE lo hi w' :=
 ⟨ZA h.row hb,fun j hj=>(h.tabs j hj).below hb,fun j hj=>⟨(h.top j hj).1,Nat.le_trans (h.top j hj).2 hb.size⟩,h.apart⟩
theorem PE.push {base:Nat}{x:Nat->FB}{k:Nat}{v:Value}{VB VE:Nat->Value}{lo hi:Nat->Nat}{w1 w2:World}(h:PE base x k v VB VE lo hi w1){l t:Nat}{vb ve:Value}
 (hl:base<=l) (ht:t<=w1.heap.size) (htab:NC (x k) l t vb ve w1) (hv:∀g,v.ownBlock=some g->g<l) {g c:Nat}
 (hown:w2.ownsRow base 24 3 (.slice (some ⟨g,0,none⟩) (k+1) c) (k+1) (qH (fun j=>(x j).size) VB VE k ++ [.int .i64 (x k).size,vb,ve])) (hgrow:w1.grownBy w2 v.ownBlock) (hat:v.ownBlock=some g\/g=w1.heap.size) :
 PE base x (k+1) (.slice (some ⟨g,0,none⟩) (k+1) c) (fun j=>if j=k then vb else VB j) (fun j=>if j=k then ve else VE j) (fun j=>if j=k then l else lo j) (fun j=>if j=k then t else hi j) w2 where
 row:=by
  have e:qH (fun j=>(x j).size) (fun j=>if j=k then vb else VB j) (fun j=>if j=k then ve else VE j) (k+1)=qH (fun j=>(x j).size) VB VE k ++ [.int .i64 (x k).size,vb,ve]:=by
   simp only[qH,if_true];rw[WP (sz':=fun j=>(x j).size) (VB':=VB) (VE':=VE) (fun j hj=>⟨rfl,by simp[show j≠k by omega],by simp[show j≠k by omega]⟩)]
  rw[e];exact hown
 tabs:=fun j hj=>by
  by_cases e:j=k
  ·subst e;simp only[if_true];exact htab.kept hgrow (fun g' hg'=>Or.inl (hv g' hg'))
  ·simp only[if_neg e];exact(h.tabs j (by omega)).kept hgrow (fun g' hg'=>h.apart j (by omega) g' hg')
 top:=fun j hj=>by
  have:=hgrow.size;by_cases e:j=k
  ·subst e;simp only[if_true];exact⟨hl,by omega⟩
  ·simp only[if_neg e];have:=h.top j (by omega);exact⟨this.1,by omega⟩
 apart:=fun j hj g' hg'=>by
  have e':g=g':=by simpa [Value.ownBlock] using hg'
  subst e';by_cases e:j=k
  ·subst e;simp only[if_true];rcases hat with h' | h'
   ·exact Or.inl (hv g h')
   ·exact Or.inr (by omega)
  ·simp only[if_neg e];rcases hat with h' | h'
   ·exact h.apart j (by omega) g h'
   ·exact Or.inr (by have:=(h.top j (by omega)).2;omega)
def kK (p:fA) (b:Nat) (e:Ending) (w':World):Prop :=
 (p.err=0/\∃VB VE,e=.returned (.tuple #[.agg #[.int .i64 p.built.size,VB,VE],.int .i64 0])/\NC p.built b w'.heap.size VB VE w') \/
 (p.err≠0/\e=.returned (.tuple #[.agg #[.int .i64 0,.slice none 0 0,.slice none 0 0],.int .i64 p.err]))
end Go.Proofs.YtjhkadffaephmacGreat
