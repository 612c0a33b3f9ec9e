import Derived.Test.YtjhkadffaephmacGreatCutRestStatesAB
namespace Go.Proofs.YtjhkadffaephmacGreat
set_option maxHeartbeats 16000000
set_option maxRecDepth 100000
open Go.RowKit
theorem Blk.new' {W:World}{B:Nat}{vs:Array Value}{t:TypeId}(h:B=W.heap.size):Blk (W.alloc (.cells vs t)) B vs t:=by subst h;exact Blk.new W vs t
def JN:Tab:=⟨3,fun _=>3,fun r c=>if r<=c then r else c⟩
def GN:Tab:=⟨1,fun _=>3,fun _ c=>if c=0 then 1 else 2⟩
def kI (n:Nat):Mat:=⟨some ⟨n+4,0,none⟩,n+4,0,3,fun r=>some ⟨n+1+r,0,none⟩,fun _=>3,fun r=>n+1+r,fun _=>0,JN⟩
def jI (n:Nat):Mat:=⟨some ⟨n+6,0,none⟩,n+6,0,1,fun _=>some ⟨n+5,0,none⟩,fun _=>3,fun _=>n+5,fun _=>0,GN⟩
def rF (n:Nat):xA:=⟨3,kI n,jI n⟩
theorem UQ {n k:Nat}{w:World}(b1:Blk w (n+1) #[.int .i64 0,.int .i64 0,.int .i64 0] 3)(b2:Blk w (n+2) #[.int .i64 0,.int .i64 1,.int .i64 1] 3)(b3:Blk w (n+3) #[.int .i64 0,.int .i64 1,.int .i64 2] 3)
 (b4:Blk w (n+4) #[.slice (some ⟨n+1,0,none⟩) 3 3,.slice (some ⟨n+2,0,none⟩) 3 3,.slice (some ⟨n+3,0,none⟩) 3 3] 32) (hk:n+4<k):(kI n).In k w where
 ga:=fun _=>rfl
 gb:=fun _=>hk
 row:=fun r hr=>by
  have hr':r<3:=hr
  match r,hr' with
  | 0,_=>exact b4.cell 0
  | 1,_=>exact b4.cell 1
  | 2,_=>exact b4.cell 2
 addr:=fun r hr _=>⟨rfl,by have hr':r<3:=hr;show n+1+r<k;omega⟩
 cell:=fun r hr c hc=>by
  have hr':r<3:=hr;have hc':c<3:=hc
  match r,hr',c,hc' with
  | 0,_,0,_=>exact b1.cell 0
  | 0,_,1,_=>exact b1.cell 1
  | 0,_,2,_=>exact b1.cell 2
  | 1,_,0,_=>exact b2.cell 0
  | 1,_,1,_=>exact b2.cell 1
  | 1,_,2,_=>exact b2.cell 2
  | 2,_,0,_=>exact b3.cell 0
  | 2,_,1,_=>exact b3.cell 1
  | 2,_,2,_=>exact b3.cell 2
 len:=by show 3<=maxLen;unfold maxLen;omega
 lens:=fun _ _=>by show 3<=maxLen;unfold maxLen;omega
theorem TQ {n k:Nat}{w:World}(b5:Blk w (n+5) #[.int .i64 1,.int .i64 2,.int .i64 2] 3)(b6:Blk w (n+6) #[.slice (some ⟨n+5,0,none⟩) 3 3] 32)(hk:n+6<k):(jI n).In k w where
 ga:=fun _=>rfl
 gb:=fun _=>hk
 row:=fun r hr=>by
  have hr':r<1:=hr
  match r,hr' with
  | 0,_=>exact b6.cell 0
 addr:=fun r hr _=>⟨rfl,by show n+5<k;omega⟩
 cell:=fun r hr c hc=>by
  have hc':c<3:=hc
  match c,hc' with
  | 0,_=>exact b5.cell 0
  | 1,_=>exact b5.cell 1
  | 2,_=>exact b5.cell 2
 len:=by show 1<=maxLen;unfold maxLen;omega
 lens:=fun _ _=>by show 3<=maxLen;unfold maxLen;omega
theorem FN (w:World):
 Calls Tryz.prog 28 #[] w fun e w'=>e=.returned (rF w.heap.size).val/\(rF w.heap.size).In w'.heap.size w'/\Below w.heap.size w w':=by
 go_enter Tryz.func28,Tryz.ntmps28;go_wp2;refine bodyPost_ret (v:=(rF w.heap.size).val) (by simp[results,Tryz.results28,go_sem,rF,xA.val,Mat.val,kI,jI,JN,GN]) rfl ⟨rfl,⟨?_,?_⟩,?_⟩
 ·refine UQ ?_ ?_ ?_ ?_ (by simp)
  all_goals repeat (first | exact Blk.new' (by simp) | refine Blk.alloc ?_ _)
 ·refine TQ ?_ ?_ (by simp)
  all_goals repeat (first | exact Blk.new' (by simp) | refine Blk.alloc ?_ _)
 ·exact((((((((Below.refl _ w).alloc lR _).alloc (by simp) _).alloc (by simp;omega) _).alloc (by simp;omega) _).alloc (by simp;omega) _).alloc (by simp;omega) _).alloc (by simp;omega) _)
theorem Alg.Good.mem_cases {a:Alg}(g:a.Good){b:Brk}(f:a.Fits b):b∈a.casesOf b.law:=by
 obtain⟨sa,sb,sc,se,ea,eb,ec,ee,d0,_⟩:=g.spans b.law;rw[d0];obtain⟨l,x,y,z,e⟩:=b;have h1:=f.a0;have:=f.a1;have h3:=f.b0;have:=f.b1;have h5:=f.c0;have:=f.c1;have h7:=f.e0;have:=f.e1;simp only at *;obtain⟨x,rfl⟩:=Int.eq_ofNat_of_zero_le h1;obtain⟨y,rfl⟩:=Int.eq_ofNat_of_zero_le h3;obtain⟨z,rfl⟩:=Int.eq_ofNat_of_zero_le h5;obtain⟨e,rfl⟩:=Int.eq_ofNat_of_zero_le h7;exact JI l (by omega) (by omega) (by omega) (by omega)
theorem Alg.Good.fits_cases {a:Alg}(g:a.Good){l:Int}(l0:1<=l)(l1:l<=9){b:Brk}(h:b∈a.casesOf l):a.Fits b/\b.law=l:=by
 obtain⟨sa,sb,sc,se,ea,eb,ec,ee,d0,_⟩:=g.spans l;rw[d0]at h;obtain⟨rfl,ha,hb,hc,he⟩:=CF h;exact⟨⟨l0,l1,ha.1,by omega,hb.1,by omega,hc.1,by omega,he.1,by omega⟩,rfl⟩
theorem uP {a:Alg}{l:Int}:a.first (a.casesOf l)=Brk.none/\((a.casesOf l).find? (fun b=>!a.holds b)=none\/Brk.none∈a.casesOf l)\/(a.first (a.casesOf l)∈a.casesOf l/\a.holds (a.first (a.casesOf l))=false):=by
 unfold Alg.first;cases hf:(a.casesOf l).find? (fun b=>!a.holds b) with
 | none=>exact .inl ⟨rfl,.inl rfl⟩
 | some b =>
  have hb:=List.find?_some hf;exact .inr ⟨List.mem_of_find?_eq_some hf,by simpa using hb⟩
theorem EH {a:Alg}:∀ {ls:List Int},a.firstOf ls≠Brk.none->∃l∈ls,a.firstOf ls=a.first (a.casesOf l)/\a.firstOf ls∈a.casesOf l/\a.holds (a.firstOf ls)=false
 | [],h=>absurd rfl h
 | l :: r,h=>by
  by_cases hl:a.first (a.casesOf l)=Brk.none
  ·have e:a.firstOf (l :: r)=a.firstOf r:=lH hl;rw[e]at h |-;obtain⟨l',hm,h1⟩:=EH h;exact⟨l',by simp[hm],h1⟩
  ·have e:a.firstOf (l :: r)=a.first (a.casesOf l):=EF hl;rw[e];rcases uP (a:=a) (l:=l) with h1 | h1
   ·exact absurd h1.1 hl
   ·exact⟨l,by simp,rfl,h1⟩
theorem FI {a:Alg}:∀ {ls:List Int},(∀l∈ls,1<=l)->a.firstOf ls=Brk.none->∀l∈ls,∀b∈a.casesOf l,a.holds b=true
 | [],_,_,l,hl=>absurd hl (by simp)
 | k :: r,hp,h,l,hl=>by
  have hk:a.first (a.casesOf k)=Brk.none:=by
   by_cases hk:a.first (a.casesOf k)=Brk.none
   ·exact hk
   ·rw[EF hk]at h;exact absurd h hk
  have hr:a.firstOf r=Brk.none:=by rw[lH hk]at h;exact h
  rcases List.mem_cons.1 hl with rfl | hl
  ·intro b hb;cases hh:a.holds b with
   | true=>rfl
   | false =>
    exfalso;have h1:((a.casesOf l).find? (fun b=>!a.holds b)).isSome=true:=by
     rw[List.find?_isSome];exact⟨b,hb,by simp[hh]⟩
    obtain⟨c,hc⟩:=Option.isSome_iff_exists.1 h1;have hm:=List.mem_of_find?_eq_some hc;have d0:=(CF hm).1;unfold Alg.first at hk;rw[hc]at hk;have:c=Brk.none:=hk;rw[this]at d0;have:=hp l (by simp);simp[Brk.none]at d0;omega
  ·exact FI (fun l hl=>hp l (by simp[hl])) hr l hl
theorem RJ {a:Alg}(hc:a.check=0){b:Brk}(f:a.Fits b):a.holdsE b=0:=by
 have hf:a.fitsB b=true:=by
  simp only[Alg.fitsB,Bool.and_eq_true,decide_eq_true_eq];exact⟨⟨⟨⟨f.a0,f.a1⟩,f.b0,f.b1⟩,f.c0,f.c1⟩,f.e0,f.e1⟩
 have h0:=f.l0;have h1:=f.l1;unfold Alg.holdsE;rw[if_neg (by simp[hc]),if_neg (by omega),hf];rfl
theorem LK {a:Alg}{b:Brk}(h:a.holdsE b=0):a.check=0/\a.Fits b:=by
 unfold Alg.holdsE at h;by_cases hc:a.check=0
 ·rw[if_neg (by simp[hc])]at h;split at h
  ·cases h
  ·next hl =>
   cases hf:a.fitsB b with
   | false=>rw[hf]at h;simp at h
   | true=>exact⟨hc,Alg.fits_of (by omega) (by omega) hf⟩
 ·rw[if_pos hc]at h;exact absurd h hc
theorem GM {a:Alg}(hc:a.check=0)(h:a.tell [1,2,3,4,5,6,7]≠Brk.none):
 a.holdsE (a.tell [1,2,3,4,5,6,7])=0/\a.holds (a.tell [1,2,3,4,5,6,7])=false/\1<=(a.tell [1,2,3,4,5,6,7]).law/\(a.tell [1,2,3,4,5,6,7]).law<=7:=by
 have e:a.tell [1,2,3,4,5,6,7]=a.firstOf [1,2,3,4,5,6,7]:=by unfold Alg.tell;rw[if_pos hc]
 rw[e]at h |-;obtain⟨l,hl,h1,h2,h3⟩:=EH h;have d0:1<=l/\l<=7:=by simp at hl;omega
 have hf:=(Alg.good_of_check hc).fits_cases d0.1 (by omega) h2;exact⟨RJ hc hf.1,h3,by omega,by omega⟩
theorem qQ {a:Alg}{b:Brk}(h:a.tell [1,2,3,4,5,6,7]=Brk.none)(he:a.holdsE b=0)(hl:b.law<=7):a.holds b=true:=by
 obtain⟨hc,f⟩:=LK he;have e:a.tell [1,2,3,4,5,6,7]=a.firstOf [1,2,3,4,5,6,7]:=by unfold Alg.tell;rw[if_pos hc]
 rw[e]at h;have h0:=f.l0;exact FI (by decide) h b.law (by simp;omega) b ((Alg.good_of_check hc).mem_cases f)
structure yA where
 kind:Int
 n:Int
 eg:Option Addr
 en:Nat
 ec:Nat
 eb:Nat
 eo:Nat
 ev:Nat->Int
 pg:Option Addr
 pn:Nat
 pc:Nat
 pb:Nat
 po:Nat
structure fA where
 node ::
 body:Option yA
 kids:body.isSome=true->Nat->fA
abbrev fA.no:fA:=.node none (fun e=>absurd e (by decide))
abbrev fA.mk (h:yA) (sub:Nat->fA):fA:=.node (some h) (fun _=>sub)
theorem fA.ind {M:fA->Prop}(no:M .no)(mk:∀ (h:yA) (sub:Nat->fA),(∀i,M (sub i))->M (.mk h sub))(p:fA):M p:=by
 induction p with
 | node body kids ih =>
  cases body with
  | none =>
   have e:kids=fun e=>absurd e (by decide):=by funext e;exact absurd e (by decide)
   rw[e];exact no
  | some h=>exact mk h (kids rfl) (fun i=>ih rfl i)
def fA.head:fA->yA
 | .node none _=>⟨0,0,none,0,0,0,0,fun _=>0,none,0,0,0,0⟩
 | .node (some h) _=>h
def fA.sub:fA->Nat->fA
 | .node none _=>fun _=>.no
 | .node (some _) s=>s rfl
theorem DF (h:yA)(sub:Nat->fA):(fA.mk h sub).head=h:=rfl
def yA.cells (h:yA):Array Value:=#[.int .i64 h.kind,.int .i64 h.n,.slice h.eg h.en h.ec,.slice h.pg h.pn h.pc]
def yA.val (h:yA):Value:=.agg h.cells
structure yA.In (h:yA) (N:Nat) (w:World):Prop where
 wk:(Lit.int .i64 h.kind).wf=true
 wn:(Lit.int .i64 h.n).wf=true
 ea:0<h.en->h.eg=some ⟨h.eb,h.eo,none⟩
 el:0<h.en->h.eb<N
 ecell:∀i,i<h.en->w.cell? ⟨h.eb,h.eo+i,none⟩=some (.int .i64 (h.ev i))
 elen:h.en<=maxLen
 pa:0<h.pn->h.pg=some ⟨h.pb,h.po,none⟩
 pl:0<h.pn->h.pb<N
 plen:h.pn*64<=140737488355328
structure yA.At (h:yA) (b o:Nat) (w:World):Prop where
 c0:w.cell? ⟨b,o,none⟩=some (.int .i64 h.kind)
 c1:w.cell? ⟨b,o+1,none⟩=some (.int .i64 h.n)
 c2:w.cell? ⟨b,o+2,none⟩=some (.slice h.eg h.en h.ec)
 c3:w.cell? ⟨b,o+3,none⟩=some (.slice h.pg h.pn h.pc)
def fA.In (N:Nat) (w:World):fA->Prop
 | .node none _=>False
 | .node (some h) sub=>h.In N w/\∀i,i<h.pn->(sub rfl i).head.At h.pb (h.po+i*4) w/\(sub rfl i).In N w
theorem yA.In.below {h:yA}{N k:Nat}{w w':World}(hi:h.In N w)(hb:Below k w w')(hk:N<=k):h.In N w' where
 wk:=hi.wk
 wn:=hi.wn
 ea:=hi.ea
 el:=hi.el
 ecell:=fun i h0=>by rw[hb.cell (p:=⟨h.eb,h.eo+i,none⟩) (Nat.lt_of_lt_of_le (hi.el (by omega)) hk)];exact hi.ecell i h0
 elen:=hi.elen
 pa:=hi.pa
 pl:=hi.pl
 plen:=hi.plen
theorem yA.In.mono {h:yA}{N k:Nat}{w:World}(hi:h.In N w)(hk:N<=k):h.In k w where
 wk:=hi.wk
 wn:=hi.wn
 ea:=hi.ea
 el:=fun h0=>Nat.lt_of_lt_of_le (hi.el h0) hk
 ecell:=hi.ecell
 elen:=hi.elen
 pa:=hi.pa
 pl:=fun h0=>Nat.lt_of_lt_of_le (hi.pl h0) hk
 plen:=hi.plen
theorem yA.At.below {h:yA}{b o k:Nat}{w w':World}(hi:h.At b o w)(hb:Below k w w')(hk:b<k):h.At b o w' where
 c0:=(hb.cell (p:=⟨b,o,none⟩) hk).trans hi.c0
 c1:=(hb.cell (p:=⟨b,o+1,none⟩) hk).trans hi.c1
 c2:=(hb.cell (p:=⟨b,o+2,none⟩) hk).trans hi.c2
 c3:=(hb.cell (p:=⟨b,o+3,none⟩) hk).trans hi.c3
theorem fA.In.below {p:fA}{N k:Nat}{w w':World}(hi:p.In N w)(hb:Below k w w')(hk:N<=k):p.In N w':=by
 induction p using fA.ind with
 | no=>exact False.elim hi
 | mk h sub ih =>
  refine⟨hi.1.below hb hk,fun i h0=>⟨(hi.2 i h0).1.below hb (Nat.lt_of_lt_of_le (hi.1.pl (by omega)) hk),ih i (hi.2 i h0).2⟩⟩
theorem fA.In.mono {p:fA}{N k:Nat}{w:World}(hi:p.In N w)(hk:N<=k):p.In k w:=by
 induction p using fA.ind with
 | no=>exact False.elim hi
 | mk h sub ih=>exact⟨hi.1.mono hk,fun i h0=>⟨(hi.2 i h0).1,ih i (hi.2 i h0).2⟩⟩
theorem fA.In.grown {p:fA}{w w':World}(hi:p.In w.heap.size w)(hb:Below w.heap.size w w'):p.In w'.heap.size w' :=
 (hi.below hb lR).mono hb.size
def within (ev:Nat->Int) (n:Nat) (l m:Int):Bool:=(List.range n).all fun i=>decide (l<=ev i) && decide (ev i<=m)
theorem within_iff {ev:Nat->Int}{n:Nat}{l m:Int}:within ev n l m=true↔∀i,i<n->l<=ev i/\ev i<=m:=by
 simp[within]
theorem wD {ev:Nat->Int}{n:Nat}{l m:Int}{i:Nat}(h:i<n)(hn:ev i<l\/m<ev i):within ev n l m=false:=by
 rw[Bool.eq_false_iff];intro hw;have:=within_iff.1 hw i h;omega
theorem XG (p:yA)(l m:Int)(N:Nat)(w:World)(h:p.In N w):
 Calls Tryz.prog 130 #[.slice p.eg p.en p.ec,.int .i64 l,.int .i64 m] w fun e w'=>e=.returned (.bool (within p.ev p.en l m))/\w'=w:=by
 have f0:=h.elen;unfold maxLen at f0;go_enter Tryz.func130,Tryz.ntmps130;go_wp2
 go_loop [8,11] (fun _ i=>∃k:Nat,k<=p.en/\i=.int .i64 k/\Hid (∀r,r<k->l<=p.ev r/\p.ev r<=m)) (fun _ i=>p.en-(intOf i).toNat)
 case atStart=>exact⟨0,zL,rfl,hide fun r hr=>absurd hr nZ⟩
 case round =>
  obtain⟨k,hk,rfl,d0⟩:=hrel;by_cases g0:k<p.en
  ·have:=h.ea (by omega);have:=h.ecell k g0;by_cases h1:p.ev k<l
   ·have Hw:=hide (wD (m:=m) g0 (Or.inl h1));go_wp2;go_ret;exact⟨by rw[Hw.out];rfl,rfl⟩
   ·by_cases h2:m<p.ev k
    ·have Hw:=hide (wD (l:=l) g0 (Or.inr h2));go_wp2;go_ret;exact⟨by rw[Hw.out];rfl,rfl⟩
    ·have g1:l<=p.ev k:=by omega
     have g2:p.ev k<=m:=by omega
     go_wp2
     go_round
     case rel=>exact⟨k+1,by omega,by go_num,hide fun r hr=>by
      by_cases e:r=k
      ·subst e;exact⟨g1,g2⟩
      ·exact d0.out r (by omega)⟩
     case measure=>simp[intOf];omega
  ·have Hw:Hid (within p.ev p.en l m=true):=hide (within_iff.2 (fun i hi=>d0.out i (by omega)));go_wp2;go_ret;exact⟨by rw[Hw.out];rfl,rfl⟩
def fA.many:fA->Nat->Bool
 | .node none _,_=>true
 | .node (some _) _,0=>true
 | .node (some h) sub,d+1=>decide (8<h.en) || (List.range h.pn).any fun i=>(sub rfl i).many d
theorem YT {h:yA}{sub:Nat->fA}{d i:Nat}(hi:i<h.pn)(hm:(sub i).many d=true):(fA.mk h sub).many (d+1)=true:=by
 simp only[fA.many,Bool.or_eq_true,List.any_eq_true,List.mem_range];exact Or.inr ⟨i,hi,hm⟩
theorem QQ {h:yA}{sub:Nat->fA}{d:Nat}(he:h.en<=8)(hm:∀i,i<h.pn->(sub i).many d=false):(fA.mk h sub).many (d+1)=false:=by
 simp only[fA.many,Bool.or_eq_false_iff,List.any_eq_false,List.mem_range,decide_eq_false_iff_not];exact⟨by omega,fun i hi=>by simp[hm i hi]⟩
theorem FM (p:fA):∀ (d:Nat) (w:World),d<=4->p.In w.heap.size w ->
 Calls Tryz.prog 66 #[p.head.val,.int .i64 d] w fun e w'=>e=.returned (.bool (p.many d))/\Below w.heap.size w w':=by
 induction p using fA.ind with
 | no=>exact fun _ _ _ h=>False.elim h
 | mk h sub ih =>
  intro d w hd u0;have IH:=hide ih;clear ih;obtain⟨hh,hs⟩:=u0;have k0:=hh.elen;have:=hh.plen;unfold maxLen at k0;have g0:Below w.heap.size w (w.alloc (.cells h.cells 37)):=(Below.refl _ w).alloc lR _;have b0:=Blk.new w h.cells 37;simp only[DF,yA.val,yA.cells]at *;have c0:=b0.cell 0;have c1:=b0.cell 1;have c2:=b0.cell 2;have c3:=b0.cell 3;simp at c0 c1 c2 c3;cases d with
  | zero =>
   go_enter Tryz.func66,Tryz.ntmps66;go_wp2;go_ret;exact⟨rfl,g0⟩
  | succ d =>
   have:(((d:Int)+1) == 0)=false:=by simp;omega
   by_cases he:8<h.en
   ·have Hm:Hid ((fA.mk h sub).many (d+1)=true):=hide (by simp[fA.many,he]);have m0:(8:Int)<(h.en:Int):=by omega
    go_enter Tryz.func66,Tryz.ntmps66;go_wp2;go_ret;exact⟨by rw[Hm.out];rfl,g0⟩
   ·have m0:(h.en:Int)<=8:=by omega
    go_enter Tryz.func66,Tryz.ntmps66;go_wp2
    go_loopw [18] (fun i wr=>∃k:Nat,k<=h.pn/\i=.int .i64 k/\Hid (∀j,j<k->(sub j).many d=false)/\Hid (Below w.heap.size w wr)) (fun i _=>h.pn-(intOf i).toNat)
    case atStart=>exact⟨0,zL,rfl,hide (fun j hj=>absurd hj nZ),hide g0⟩
    case round =>
     obtain⟨k,hk,rfl,f0,HB⟩:=hrel;by_cases j0:k<h.pn
     ·obtain⟨p0,h0⟩:=hs k j0;have o0:=hh.pa (by omega);have d0:=p0.below HB.out (hh.pl (by omega));have:=d0.c0;have:=d0.c1;have:=d0.c2;have:=d0.c3;have HI:=hide ((h0.grown HB.out).grown ((Below.refl _ wr).alloc lR (.cells (sub k).head.cells 37)));simp only[yA.cells]at HI;go_wp2_with fail;go_at_call 66;refine(IH.out k d _ (by omega) HI.out).mono ?_;rintro e w1 ⟨rfl,s0⟩;have i0:=hide (HB.out.trans (((Below.refl _ wr).alloc lR _).trans (s0.mono (by simp)) |>.mono HB.out.size));cases hm:(sub k).many d with
      | true =>
       have Hm:=hide (YT j0 hm);clear hm;go_wp2;go_ret;exact⟨by rw[Hm.out];rfl,i0.out⟩
      | false =>
       have Hm:=hide hm;clear hm;go_wp2;go_roundw
       case rel =>
        have hn:∀j,j<k+1->(sub j).many d=false:=fun j hj=>by
         by_cases e:j=k
         ·subst e;exact Hm.out
         ·exact f0.out j (by omega)
        rw[<-o0];exact⟨_,_,_,_,_,_,_,_,_,_,_,⟨k+1,by omega,by go_num,hide hn,i0⟩,rfl⟩
       case measure=>simp[intOf];omega
     ·have Hm:=hide (QQ (h:=h) (sub:=sub) (d:=d) (by omega) (fun i hi=>f0.out i (by omega)));go_wp2;go_ret;exact⟨by rw[Hm.out];rfl,HB.out⟩
def fA.deep:fA->Nat->Bool
 | .node none _,_=>true
 | .node (some _) _,0=>true
 | .node (some h) sub,d+1=>(List.range h.pn).any fun i=>(sub rfl i).deep d
def fA.wide:fA->Bool
 | .node none _=>true
 | .node (some h) sub=>decide (8<h.en) || (List.range h.pn).any fun i=>(sub rfl i).wide
theorem iM (p:fA):∀d,p.many d=(p.deep d || p.wide):=by
 induction p using fA.ind with
 | no=>exact fun d=>by simp[fA.many,fA.deep]
 | mk h sub ih =>
  intro d;cases d with
  | zero=>simp[fA.many,fA.deep]
  | succ d =>
   simp only[fA.many,fA.deep,fA.wide,ih];rw[Bool.eq_iff_iff];simp only[Bool.or_eq_true,List.any_eq_true,List.mem_range,decide_eq_true_eq];constructor
   ·rintro(h8 | ⟨i,hi,h1 | h1⟩)
    ·exact Or.inr (Or.inl h8)
    ·exact Or.inl ⟨i,hi,h1⟩
    ·exact Or.inr (Or.inr ⟨i,hi,h1⟩)
   ·rintro(⟨i,hi,h1⟩ | h8 | ⟨i,hi,h1⟩)
    ·exact Or.inr ⟨i,hi,Or.inl h1⟩
    ·exact Or.inl h8
    ·exact Or.inr ⟨i,hi,Or.inr h1⟩
theorem PT {h:yA}{sub:Nat->fA}{i:Nat}(hi:i<h.pn)(hm:(sub i).wide=true):(fA.mk h sub).wide=true:=by
 simp only[fA.wide,Bool.or_eq_true,List.any_eq_true,List.mem_range];exact Or.inr ⟨i,hi,hm⟩
theorem kQ {h:yA}{sub:Nat->fA}(he:h.en<=8)(hm:∀i,i<h.pn->(sub i).wide=false):(fA.mk h sub).wide=false:=by
 simp only[fA.wide,Bool.or_eq_false_iff,List.any_eq_false,List.mem_range,decide_eq_false_iff_not];exact⟨by omega,fun i hi=>by simp[hm i hi]⟩
theorem vO (p:fA):∀ (w:World),p.In w.heap.size w ->
 Calls Tryz.prog 35 #[p.head.val] w fun e w'=>e=.returned (.bool p.wide)/\Below w.heap.size w w':=by
 induction p using fA.ind with
 | no=>exact fun _ h=>False.elim h
 | mk h sub ih =>
  intro w v0;have IH:=hide ih;clear ih;obtain⟨hh,hs⟩:=v0;have m0:=hh.elen;have w0:=hh.plen;unfold maxLen at m0;have h0:Below w.heap.size w (w.alloc (.cells h.cells 37)):=(Below.refl _ w).alloc lR _;have b0:=Blk.new w h.cells 37;simp only[DF,yA.val,yA.cells]at *;have c2:=b0.cell 2;have c3:=b0.cell 3;simp at c2 c3;by_cases he:8<h.en
  ·have Hm:Hid ((fA.mk h sub).wide=true):=hide (by simp[fA.wide,he]);have o0:(8:Int)<(h.en:Int):=by omega
   go_enter Tryz.func35,Tryz.ntmps35;go_wp2;go_ret;exact⟨by rw[Hm.out];rfl,h0⟩
  ·have o0:(h.en:Int)<=8:=by omega
   go_enter Tryz.func35,Tryz.ntmps35;go_wp2
   go_loopw [3] (fun i wr=>∃k:Nat,k<=h.pn/\i=.int .i64 k/\Hid (∀j,j<k->(sub j).wide=false)/\Hid (Below (w.heap.size+1) (w.alloc (.cells #[.int .i64 h.kind,.int .i64 h.n,.slice h.eg h.en h.ec,.slice h.pg h.pn h.pc] 37)) wr)) (fun i _=>h.pn-(intOf i).toNat)
   case atStart=>exact⟨0,zL,rfl,hide (fun j hj=>absurd hj nZ),hide (Below.refl _ _)⟩
   case round =>
    obtain⟨k,hk,rfl,f0,HB⟩:=hrel;have b1:=b0.below HB.out (by omega);have d3:=b1.cell 3;simp at d3;have HW:=hide (h0.trans (HB.out.mono (by omega)));by_cases k0:k<h.pn
    ·obtain⟨u0,g0⟩:=hs k k0;have p0:=hh.pa (by omega);have d0:=u0.below HW.out (hh.pl (by omega));have q0:=d0.c0;have q1:=d0.c1;have q2:=d0.c2;have q3:=d0.c3;have x0:(k:Int)<(h.pn:Int):=by omega
     have HI:=hide (g0.grown HW.out);go_wp2_with fail;go_at_call 35;refine(IH.out k _ HI.out).mono ?_;rintro e w1 ⟨rfl,j0⟩;have i0:=hide (HB.out.trans (j0.mono (by have:=HB.out.size;simp at this;omega)));have s0:=hide (HW.out.trans (j0.mono HW.out.size));cases hm:(sub k).wide with
     | true =>
      have Hm:=hide (PT k0 hm);clear hm;go_wp2;go_ret;exact⟨by rw[Hm.out];rfl,s0.out⟩
     | false =>
      have Hm:=hide hm;clear hm;go_wp2;go_roundw
      case rel =>
       have hn:∀j,j<k+1->(sub j).wide=false:=fun j hj=>by
        by_cases e:j=k
        ·subst e;exact Hm.out
        ·exact f0.out j (by omega)
       first
       | exact⟨k+1,by omega,by go_num,hide hn,i0⟩
       | (rw[<-p0];(repeat apply Exists.intro);exact⟨⟨k+1,by omega,by go_num,hide hn,i0⟩,rfl⟩)
      case measure=>simp[intOf];omega
    ·have Hm:=hide (kQ (h:=h) (sub:=sub) (by omega) (fun i hi=>f0.out i (by omega)));go_wp2;go_ret;exact⟨by rw[Hm.out];rfl,HW.out⟩
theorem iR (p:fA):p.deep 0=true:=by
 induction p using fA.ind with
 | no=>rfl
 | mk h sub _=>rfl
theorem jR {h:yA}{sub:Nat->fA}{d:Nat}:(fA.mk h sub).deep (d+1)=true↔∃i,i<h.pn/\(sub i).deep d=true:=by
 simp only[fA.deep,List.any_eq_true,List.mem_range]
theorem yP (p:fA):∀ (d:Nat) (w:World),d<=4->p.In w.heap.size w ->
 Calls Tryz.prog 34 #[p.head.val,.int .i64 d] w fun e w'=>∃n:Nat,e=.returned (.int .i64 n)/\(1<=n/\n<=d+1/\(d<n↔p.deep d=true))/\Below w.heap.size w w':=by
 induction p using fA.ind with
 | no=>exact fun _ _ _ h=>False.elim h
 | mk h sub ih =>
  intro d w hd v0;have IH:=hide ih;clear ih;obtain⟨hh,hs⟩:=v0;have x0:=hh.plen;have i0:Below w.heap.size w (w.alloc (.cells h.cells 37)):=(Below.refl _ w).alloc lR _;have b0:=Blk.new w h.cells 37;simp only[DF,yA.val,yA.cells]at *;have c3:=b0.cell 3;simp at c3;cases d with
  | zero =>
   have Hz:=hide (iR (fA.mk h sub));go_enter Tryz.func34,Tryz.ntmps34;go_wp2
   go_loopw [5,6] (fun o i wr=>i=.int .i64 0/\o=.int .i64 1/\wr=(w.alloc (.cells #[.int .i64 h.kind,.int .i64 h.n,.slice h.eg h.en h.ec,.slice h.pg h.pn h.pc] 37))) (fun _ _ _=>0)
   case atStart=>exact⟨rfl,rfl,rfl⟩
   case round =>
    obtain⟨rfl,rfl,rfl⟩:=hrel;by_cases hp:0<h.pn
    ·have o0:(0:Int)<(h.pn:Int):=by omega
     go_wp2;go_ret;exact⟨1,rfl,⟨by omega,by omega,by simp[Hz.out]⟩,i0⟩
    ·have o0:(h.pn:Int)<=0:=by omega
     go_wp2;go_ret;exact⟨1,rfl,⟨by omega,by omega,by simp[Hz.out]⟩,i0⟩
  | succ d =>
   have y0:(0:Int)<(d:Int)+1:=by omega
   go_enter Tryz.func34,Tryz.ntmps34;go_wp2
   go_loopw [5,6] (fun o i wr=>∃k n:Nat,k<=h.pn/\o=.int .i64 n/\i=.int .i64 k/\Hid (1<=n/\n<=d+2/\(d+1<n↔∃j,j<k/\(sub j).deep d=true))/\Hid (Below (w.heap.size+1) (w.alloc (.cells #[.int .i64 h.kind,.int .i64 h.n,.slice h.eg h.en h.ec,.slice h.pg h.pn h.pc] 37)) wr)) (fun _ i _=>h.pn-(intOf i).toNat)
   case atStart=>exact⟨0,1,zL,rfl,rfl,hide ⟨by omega,by omega,by constructor;omega;rintro⟨j,hj,_⟩;omega⟩,hide (Below.refl _ _)⟩
   case round =>
    obtain⟨k,n,hk,rfl,rfl,Hn,HB⟩:=hrel;have b1:=b0.below HB.out (by omega);have d3:=b1.cell 3;simp at d3;have HW:=hide (i0.trans (HB.out.mono (by omega)));by_cases w0:k<h.pn
    ·obtain⟨u0,j0⟩:=hs k w0;have k0:=hh.pa (by omega);have d0:=u0.below HW.out (hh.pl (by omega));have q0:=d0.c0;have q1:=d0.c1;have q2:=d0.c2;have q3:=d0.c3;have p0:(k:Int)<(h.pn:Int):=by omega
     have HI:=hide (j0.grown HW.out);go_wp2_with fail;go_at_call 34;refine(IH.out k d _ (by omega) HI.out).mono ?_;rintro e w1 ⟨r,rfl,hr,m0⟩;have g0:=hide (HB.out.trans (m0.mono (by have:=HB.out.size;simp at this;omega)));have z0:=hide (HW.out.trans (m0.mono HW.out.size));have A0:=hr.2.1;have Hr:=hide hr;clear hr;have f0:∀m:Nat,1<=m->m<=d+2->(d+1<m↔(d+1<n\/d<r))->(1<=m/\m<=d+2/\(d+1<m↔∃j,j<k+1/\(sub j).deep d=true)):=fun m h1 h2 h3=>⟨h1,h2,by
      rw[h3,Hn.out.2.2,Hr.out.2.2];constructor
      ·rintro(⟨j,hj,hd⟩ | hd)
       ·exact⟨j,by omega,hd⟩
       ·exact⟨k,by omega,hd⟩
      ·rintro⟨j,hj,hd⟩;by_cases e:j=k
       ·subst e;exact Or.inr hd
       ·exact Or.inl ⟨j,by omega,hd⟩⟩
     have HS:=hide f0;clear f0;have B0:=Hn.out.2.1;by_cases h0:n<1+r
     ·have s0:(n:Int)<1+(r:Int):=by omega
      have Hg:=hide h0;clear h0;go_wp2;go_roundw
      case rel =>
       have hn:=HS.out (1+r) (by omega) (by omega) (by have:=Hg.out;omega)
       first
       | exact⟨k+1,1+r,by omega,by go_num,by go_num,hide hn,g0⟩
       | (rw[<-k0];(repeat apply Exists.intro);exact⟨⟨k+1,1+r,by omega,by go_num,by go_num,hide hn,g0⟩,rfl⟩)
      case measure=>simp[intOf];omega
     ·have s0:1+(r:Int)<=(n:Int):=by omega
      have Hg:=hide h0;clear h0;go_wp2;go_roundw
      case rel =>
       have hn:=HS.out n Hn.out.1 Hn.out.2.1 (by have:=Hg.out;omega)
       first
       | exact⟨k+1,n,by omega,rfl,by go_num,hide hn,g0⟩
       | (rw[<-k0];(repeat apply Exists.intro);exact⟨⟨k+1,n,by omega,rfl,by go_num,hide hn,g0⟩,rfl⟩)
      case measure=>simp[intOf];omega
    ·have p0:(h.pn:Int)<=(k:Int):=by omega
     go_wp2;go_ret;refine⟨n,rfl,⟨Hn.out.1,Hn.out.2.1,?_⟩,HW.out⟩;rw[Hn.out.2.2,jR];constructor
     ·rintro⟨j,hj,hd⟩;exact⟨j,by omega,hd⟩
     ·rintro⟨j,hj,hd⟩;exact⟨j,by omega,hd⟩
def aB (f:Nat->Int):Nat->Int
 | 0=>0
 | n+1=>if aB f n=0 then f n else aB f n
theorem jC {f:Nat->Int}{n:Nat}:aB f n=0↔∀i,i<n->f i=0:=by
 induction n with
 | zero=>simp[aB]
 | succ n ih =>
  simp only[aB];by_cases h:aB f n=0
  ·rw[if_pos h];constructor
   ·intro h0 i hi;by_cases e:i=n
    ·subst e;exact h0
    ·exact ih.1 h i (by omega)
   ·intro h0;exact h0 n (by omega)
  ·rw[if_neg h];constructor
   ·intro h0;exact absurd h0 h
   ·intro h0;exact absurd (ih.2 (fun i hi=>h0 i (by omega))) h
theorem nG {f:Nat->Int}{n k:Nat}(hk:k<n)(h0:∀i,i<k->f i=0)(h:f k≠0):aB f n=f k:=by
 induction n with
 | zero=>omega
 | succ n ih =>
  simp only[aB];by_cases e:k=n
  ·subst e;rw[if_pos (jC.2 h0)]
  ·rw[ih (by omega),if_neg h]
def fA.size:fA->Nat
 | .node none _=>0
 | .node (some h) sub=>if h.kind=3 then ((sub rfl 0).size-1)*((sub rfl 1).size-1)+1 else if h.kind=4 then (sub rfl 0).size else h.n.toNat+2
def fA.edges:fA->Nat
 | .node none _=>0
 | .node (some h) sub=>if h.kind=3 then (sub rfl 0).edges else if h.kind=4 then (sub rfl 0).edges else h.en
def YB (h:yA):Int:=if h.pn≠0 then 1 else if h.n<1\/22<h.n\/within h.ev h.en 1 h.n=false then 3 else 0
def fB (h:yA) (s g:Nat->Nat):Int :=
 if h.pn≠2 then 1 else if h.n≠0 then 3 else if h.en≠0 then 1 else if g 0≠g 1 then 4 else if 24<(s 0-1)*(s 1-1)+1 then 2 else 0
def LB (h:yA) (s g:Nat->Nat):Int :=
 if h.pn≠1 then 1 else if h.n≠0 then 3 else if h.en≠g 0 then 4 else if within h.ev h.en 0 (2 ^ s 0-1)=false then 3 else 0
def OC (h:yA) (s g:Nat->Nat):Int :=
 if h.kind=1\/h.kind=2 then YB h else if h.kind=3 then fB h s g else if h.kind=4 then LB h s g else 7
def fA.err:fA->Int
 | .node none _=>1
 | .node (some h) sub=>if aB (fun i=>(sub rfl i).err) h.pn=0 then OC h (fun i=>(sub rfl i).size) (fun i=>(sub rfl i).edges) else aB (fun i=>(sub rfl i).err) h.pn
theorem XJ (h:yA)(sub:Nat->fA):(fA.mk h sub).err=if aB (fun i=>(sub i).err) h.pn=0 then OC h (fun i=>(sub i).size) (fun i=>(sub i).edges) else aB (fun i=>(sub i).err) h.pn:=rfl
theorem wJ {p:fA}(h:p.err=0):3<=p.size/\p.size<=24:=by
 induction p using fA.ind with
 | no=>cases h
 | mk h0 sub ih =>
  rw[XJ]at h;by_cases hf:aB (fun i=>(sub i).err) h0.pn=0
  ·rw[if_pos hf]at h;have hs:=jC.1 hf;unfold OC at h;simp only[fA.size];by_cases d0:h0.kind=1\/h0.kind=2
   ·rw[if_pos d0]at h;rw[if_neg (by omega),if_neg (by omega)];unfold YB at h;split at h
    ·cases h
    ·split at h
     ·cases h
     ·rename_i hx
      have:¬ h0.n<1:=fun hh=>hx (Or.inl hh);have:¬ 22<h0.n:=fun hh=>hx (Or.inr (Or.inl hh));omega
   ·rw[if_neg d0]at h;by_cases h3:h0.kind=3
    ·rw[if_pos h3]at h |-;unfold fB at h;split at h
     ·cases h
     ·rename_i hpn
      have:=ih 0 (hs 0 (by omega));have:=ih 1 (hs 1 (by omega))
      (repeat' split at h) <;> try (cases h)
      rename_i hsz
      simp only at hsz;have:2*2<=((sub 0).size-1)*((sub 1).size-1):=Nat.mul_le_mul (by omega) (by omega);omega
    ·rw[if_neg h3]at h |-;by_cases h4:h0.kind=4
     ·rw[if_pos h4]at h |-;unfold LB at h;split at h
      ·cases h
      ·exact ih 0 (hs 0 (by omega))
     ·rw[if_neg h4]at h;cases h
  ·rw[if_neg hf]at h;exact absurd h hf
structure sI (ga:Option Addr) (n gb:Nat) (s g:Nat->Nat) (w:World):Prop where
 addr:0<n->ga=some ⟨gb,0,none⟩
 lt:0<n->gb<w.heap.size
 c0:∀i,i<n->w.cell? ⟨gb,i*2,none⟩=some (.int .i64 (s i))
 c1:∀i,i<n->w.cell? ⟨gb,i*2+1,none⟩=some (.int .i64 (g i))
theorem sI.below {ga:Option Addr}{n gb:Nat}{s g:Nat->Nat}{w w':World}(h:sI ga n gb s g w)(hb:Below w.heap.size w w'):sI ga n gb s g w' where
 addr:=h.addr
 lt:=fun h0=>Nat.lt_of_lt_of_le (h.lt h0) hb.size
 c0:=fun i hi=>(hb.cell (p:=⟨gb,i*2,none⟩) (h.lt (by omega))).trans (h.c0 i hi)
 c1:=fun i hi=>(hb.cell (p:=⟨gb,i*2+1,none⟩) (h.lt (by omega))).trans (h.c1 i hi)
def zG (x:Int) (S G:Nat) (e:Ending):Prop :=
 ∃s g:Nat,e=.returned (.tuple #[.agg #[.int .i64 s,.int .i64 g],.int .i64 x])/\(x=0->s=S/\g=G)
theorem TA {x:Int}{S G:Nat}(h:x≠0):zG x S G (.returned (.tuple #[.agg #[.int .i64 0,.int .i64 0],.int .i64 x])):=⟨0,0,rfl,fun e=>absurd e h⟩
theorem iH (h:yA)(w:World)(hh:h.In w.heap.size w):
 Calls Tryz.prog 99 #[h.val] w fun e w'=>zG (YB h) (h.n.toNat+2) h.en e/\Below w.heap.size w w':=by
 have h0:=hh.elen;unfold maxLen at h0;have i0:Below w.heap.size w ((w.alloc (.cells h.cells 37)).alloc (.cells #[.int .i64 0,.int .i64 0] 106)):=((Below.refl _ w).alloc lR _).alloc (by simp) _;have HA:=hide (XG h 1 h.n _ _ (hh.below i0 lR));have f0:∀u v:Value,Below w.heap.size w ((w.alloc (.cells h.cells 37)).alloc (.cells #[u,v] 106)):=fun u v=>((Below.refl _ w).alloc lR _).alloc (by simp) _;simp only[yA.val,yA.cells]at *;by_cases d0:h.pn=0
 ·have j0:((h.pn:Int) != 0)=false:=by simp[d0]
  by_cases h1:h.n<1
  ·have e:YB h=3:=by unfold YB;rw[if_neg (by omega),if_pos (Or.inl h1)]
   rw[e];clear d0;go_enter Tryz.func99,Tryz.ntmps99;go_wp2;refine bodyPost_ret (v:=.tuple #[.agg #[.int .i64 0,.int .i64 0],.int .i64 3]) (by simp[results,Tryz.results99,go_sem]) rfl ⟨TA (by decide),f0 _ _⟩
  ·by_cases h2:22<h.n
   ·have e:YB h=3:=by unfold YB;rw[if_neg (by omega),if_pos (Or.inr (Or.inl h2))]
    rw[e];clear d0;go_enter Tryz.func99,Tryz.ntmps99;go_wp2;refine bodyPost_ret (v:=.tuple #[.agg #[.int .i64 0,.int .i64 0],.int .i64 3]) (by simp[results,Tryz.results99,go_sem]) rfl ⟨TA (by decide),f0 _ _⟩
   ·cases hw:within h.ev h.en 1 h.n with
    | false =>
     have e:YB h=3:=by unfold YB;rw[if_neg (by omega),if_pos (Or.inr (Or.inr hw))]
     rw[e];rw[hw]at HA;clear d0 hw;go_enter Tryz.func99,Tryz.ntmps99;go_wp2_with (go_at_call 130;refine HA.out.mono ?_;rintro e w' ⟨rfl,rfl⟩);refine bodyPost_ret (v:=.tuple #[.agg #[.int .i64 0,.int .i64 0],.int .i64 3]) (by simp[results,Tryz.results99,go_sem]) rfl ⟨TA (by decide),f0 _ _⟩
    | true =>
     have e:YB h=0:=by unfold YB;rw[if_neg (by omega),if_neg (by rw[hw];simp;omega)]
     rw[e];rw[hw]at HA;have g0:((h.n.toNat+2:Nat):Int)=h.n+2:=by omega
     have k0:=hide g0;clear d0 hw g0;go_enter Tryz.func99,Tryz.ntmps99;go_wp2_with (go_at_call 130;refine HA.out.mono ?_;rintro e w' ⟨rfl,rfl⟩);refine bodyPost_ret (v:=.tuple #[.agg #[.int .i64 (h.n+2),.int .i64 h.en],.int .i64 0]) (by simp[results,Tryz.results99,go_sem]) rfl ⟨⟨h.n.toNat+2,h.en,by rw[k0.out],fun _=>⟨rfl,rfl⟩⟩,f0 _ _⟩
 ·have j0:((h.pn:Int) != 0)=true:=by simp[d0]
  have e:YB h=1:=by unfold YB;rw[if_pos d0]
  rw[e];clear d0;go_enter Tryz.func99,Tryz.ntmps99;go_wp2;refine bodyPost_ret (v:=.tuple #[.agg #[.int .i64 0,.int .i64 0],.int .i64 1]) (by simp[results,Tryz.results99,go_sem]) rfl ⟨TA (by decide),f0 _ _⟩
end Go.Proofs.YtjhkadffaephmacGreat

namespace Go.Proofs.YtjhkadffaephmacGreat
set_option maxHeartbeats 16000000
set_option maxRecDepth 100000
structure Net where
 a:Alg
 nodes:Int
 ln:Nat
 F:Nat->Int
 T:Nat->Int
 E:Nat->Int
def Net.twice (n:Net) (i:Nat):Bool:=(List.range i).any fun k=>n.F k == n.F i && n.T k == n.T i
def Net.linkErr (n:Net) (i:Nat):Int :=
 if (n.F i<0\/n.nodes<=n.F i)\/(n.T i<0\/n.nodes<=n.T i)\/(n.E i<0\/(n.a.E.len:Int)<=n.E i) then 5
 else if n.F i=n.T i then 1 else if n.twice i=true then 6 else 0
def Net.check (n:Net):Int :=
 if n.a.check≠0 then n.a.check else if (n.a.tell [1,2,3,4,5,6,7]).law≠0 then 4
 else if n.nodes<1\/6<n.nodes then 3 else aB n.linkErr n.ln
def Net.rows (n:Net) (t:Tab):Int :=
 if (t.len:Int)≠n.nodes\/t.wide n.nodes=false then 1 else if t.routes n.a.size=false then 5 else 0
def Net.fit (n:Net) (t:Tab):Int:=if n.check=0 then n.rows t else n.check
def Net.edge (n:Net) (i k:Int):Int:=(((List.range n.ln).find? fun l=>n.F l == i && n.T l == k).map n.E).getD (-1)
def Net.out (n:Net) (i j:Nat) (has:Nat->Int):Nat->Int
 | 0=>if i=j then 0 else n.a.size-1
 | k+1=>if 0<=n.edge i k then n.a.B.get (n.out i j has k) (n.a.E.get (n.edge i k) (has k)) else n.out i j has k
def Net.N (n:Net):Nat:=n.nodes.toNat
def Net.route (n:Net) (i j:Nat) (has:Nat->Int):Int:=n.out i j has n.N
def Net.round (n:Net) (x:Nat->Nat->Int) (i j:Nat):Int:=n.route i j (fun k=>x k j)
def Net.begin (n:Net) (i j:Nat):Int:=if i=j then 0 else n.a.size-1
def Net.iter (n:Net):Nat->(Nat->Nat->Int)->Nat->Nat->Int
 | 0,x=>x
 | k+1,x=>n.iter k (n.round x)
def Net.same (n:Net) (x y:Nat->Nat->Int):Bool:=(List.range n.N).all fun i=>(List.range n.N).all fun j=>x i j == y i j
def Net.settle (n:Net):Nat->(Nat->Nat->Int)->(Nat->Nat->Int)×Nat
 | 0,x=>(x,0)
 | m+1,x=>if n.same x (n.round x)=true then (x,0) else ((n.settle m (n.round x)).1,(n.settle m (n.round x)).2+1)
theorem Net.same_iff {n:Net}{x y:Nat->Nat->Int}:n.same x y=true↔∀i j,i<n.N->j<n.N->x i j=y i j:=by
 simp only[Net.same,List.all_eq_true,List.mem_range,beq_iff_eq];exact⟨fun h i j hi hj=>h i hi j hj,fun h i hi j hj=>h i j hi hj⟩
structure Alg.Lawful (a:Alg):Prop where
 good:a.Good
 comm:∀x y,0<=x->x<a.size->0<=y->y<a.size->a.B.get x y=a.B.get y x
 assoc:∀x y z,0<=x->x<a.size->0<=y->y<a.size->0<=z->z<a.size->a.B.get x (a.B.get y z)=a.B.get (a.B.get x y) z
 sel:∀x y,0<=x->x<a.size->0<=y->y<a.size->a.B.get x y=x\/a.B.get x y=y
 zero:∀x,0<=x->x<a.size->a.B.get 0 x=0
 last:∀x,0<=x->x<a.size->a.B.get (a.size-1) x=x
 elast:∀e:Int,0<=e->e<a.E.len->a.E.get e (a.size-1)=a.size-1
 incr:∀e x:Int,0<=e->e<a.E.len->0<=x->x<a.size->a.B.get x (a.E.get e x)=x
theorem uK {a:Alg}(hc:a.check=0)(h:(a.tell [1,2,3,4,5,6,7]).law=0):a.tell [1,2,3,4,5,6,7]=Brk.none:=by
 apply Classical.byContradiction;intro hn;have:=GM hc hn;omega
theorem Alg.Lawful.of {a:Alg}(hc:a.check=0)(h:(a.tell [1,2,3,4,5,6,7]).law=0):a.Lawful:=by
 have g:=Alg.good_of_check hc;have lo:=g.lo;have t:=uK hc h;have d0:∀b:Brk,a.Fits b->b.law<=7->a.holds b=true:=fun b f hl=>qQ t (RJ hc f) hl;refine⟨g,?_,?_,?_,?_,?_,?_,?_⟩
 ·intro x y h0 h1 h2 h3;have:=d0 ⟨1,x,y,0,0⟩ ⟨by simp,by simp,h0,by simp[QD,IA];omega,h2,by simp[PD,IA];omega,by simp,by simp[OD,IA],by simp,by simp[rD,mD]⟩ (by simp);simpa [Alg.holds] using this
 ·intro x y z h0 h1 h2 h3 h4 h5;have:=d0 ⟨2,x,y,z,0⟩ ⟨by simp,by simp,h0,by simp[QD,IA];omega,h2,by simp[PD,IA];omega,h4,by simp[OD,IA];omega,by simp,by simp[rD,mD]⟩ (by simp);simpa [Alg.holds] using this
 ·intro x y h0 h1 h2 h3;have:=d0 ⟨3,x,y,0,0⟩ ⟨by simp,by simp,h0,by simp[QD,IA];omega,h2,by simp[PD,IA];omega,by simp,by simp[OD,IA],by simp,by simp[rD,mD]⟩ (by simp);simpa [Alg.holds] using this
 ·intro x h0 h1;have:=d0 ⟨4,x,0,0,0⟩ ⟨by simp,by simp,h0,by simp[QD,IA];omega,by simp,by simp[PD,IA],by simp,by simp[OD,IA],by simp,by simp[rD,mD]⟩ (by simp);simpa [Alg.holds] using this
 ·intro x h0 h1;have:=d0 ⟨5,x,0,0,0⟩ ⟨by simp,by simp,h0,by simp[QD,IA];omega,by simp,by simp[PD,IA],by simp,by simp[OD,IA],by simp,by simp[rD,mD]⟩ (by simp);simpa [Alg.holds] using this
 ·intro e h0 h1;have:=d0 ⟨6,0,0,0,e⟩ ⟨by simp,by simp,by simp,by simp[QD,IA],by simp,by simp[PD,IA],by simp,by simp[OD,IA],h0,by simp[rD,mD];omega⟩ (by simp);simpa [Alg.holds] using this
 ·intro e x h0 h1 h2 h3;have:=d0 ⟨7,x,0,0,e⟩ ⟨by simp,by simp,h2,by simp[QD,IA];omega,by simp,by simp[PD,IA],by simp,by simp[OD,IA],h0,by simp[rD,mD];omega⟩ (by simp);simpa [Alg.holds] using this
section
variable {a:Alg}
theorem Alg.Lawful.le_trans (h:a.Lawful){x y z:Int}(h0:0<=x)(h1:x<a.size)(h2:0<=y)(h3:y<a.size)(h4:0<=z)(h5:z<a.size)(e1:a.B.get x y=x)(e2:a.B.get y z=y):a.B.get x z=x:=by
 have:=h.assoc x y z h0 h1 h2 h3 h4 h5;rw[e2,e1]at this;exact this.symm
theorem Alg.Lawful.le_anti (h:a.Lawful){x y:Int}(h0:0<=x)(h1:x<a.size)(h2:0<=y)(h3:y<a.size)(e1:a.B.get x y=x)(e2:a.B.get y x=y):x=y:=by
 rw[<-e1,h.comm x y h0 h1 h2 h3,e2]
end
structure Net.Good (n:Net):Prop where
 law:n.a.Lawful
 lo:1<=n.nodes
 hi:n.nodes<=6
 link:∀i,i<n.ln->0<=n.F i/\n.F i<n.nodes/\0<=n.T i/\n.T i<n.nodes/\0<=n.E i/\n.E i<n.a.E.len
theorem Net.good_of_check {n:Net}(h:n.check=0):n.Good:=by
 unfold Net.check at h;by_cases h1:n.a.check=0
 ·rw[if_neg (by simp[h1])]at h;by_cases h2:(n.a.tell [1,2,3,4,5,6,7]).law=0
  ·rw[if_neg (by simp[h2])]at h;by_cases h3:n.nodes<1\/6<n.nodes
   ·rw[if_pos h3]at h;cases h
   ·rw[if_neg h3]at h;refine⟨Alg.Lawful.of h1 h2,by omega,by omega,fun i hi=>?_⟩;have:=jC.1 h i hi;unfold Net.linkErr at this;split at this
    ·cases this
    ·omega
  ·rw[if_pos h2]at h;cases h
 ·rw[if_pos h1]at h;exact absurd h h1
theorem Net.edge_lt {n:Net}(g:n.Good)(i k:Int):n.edge i k<n.a.E.len:=by
 unfold Net.edge;cases hf:(List.range n.ln).find? fun l=>n.F l == i && n.T l == k with
 | none=>simp;omega
 | some l =>
  have:=List.mem_of_find?_eq_some hf;simp only[List.mem_range]at this;simpa using (g.link l this).2.2.2.2.2
def Net.Routes (n:Net) (f:Nat->Int):Prop:=∀k,k<n.N->0<=f k/\f k<n.a.size
section
variable {n:Net}
theorem Net.cand {n:Net}(g:n.Good){f:Nat->Int}(hf:n.Routes f){i:Int}{k:Nat}(hk:k<n.N)(he:0<=n.edge i k):0<=n.a.E.get (n.edge i k) (f k)/\n.a.E.get (n.edge i k) (f k)<n.a.size :=
 g.law.good.edge he (n.edge_lt g i k) (hf k hk).1 (hf k hk).2
theorem Net.out_spec (g:n.Good){f:Nat->Int}(hf:n.Routes f)(i j:Nat):∀m,m<=n.N ->
 (0<=n.out i j f m/\n.out i j f m<n.a.size) /\
 (n.out i j f m=n.out i j f 0\/∃k,k<m/\0<=n.edge i k/\n.out i j f m=n.a.E.get (n.edge i k) (f k)) /\
 n.a.B.get (n.out i j f m) (n.out i j f 0)=n.out i j f m /\
 ∀k,k<m->0<=n.edge i k->n.a.B.get (n.out i j f m) (n.a.E.get (n.edge i k) (f k))=n.out i j f m:=by
 have:=g.law.good.lo;intro m
 induction m with
 | zero =>
  intro _;have h0:0<=n.out i j f 0/\n.out i j f 0<n.a.size:=by
   unfold Net.out;split <;> omega
  refine⟨h0,Or.inl rfl,?_,fun k hk=>absurd hk nZ⟩;rcases g.law.sel _ _ h0.1 h0.2 h0.1 h0.2 with e | e <;> exact e
 | succ m ih =>
  intro hm;obtain⟨r,s,t,u⟩:=ih (by omega);have h0:0<=n.out i j f 0/\n.out i j f 0<n.a.size:=by
   simp only[Net.out];split <;> omega
  by_cases he:0<=n.edge i m
  ·have e:n.out i j f (m+1)=n.a.B.get (n.out i j f m) (n.a.E.get (n.edge i m) (f m)):=by
    rw[Net.out,if_pos he]
   obtain⟨c0,c1⟩:=n.cand g hf (i:=i) (k:=m) (by omega) he;generalize hc:n.a.E.get (n.edge i m) (f m)=c at *;generalize n.out i j f m=o at *;rw[e];rcases g.law.sel o c r.1 r.2 c0 c1 with e1 | e1
   ·rw[e1];refine⟨r,?_,t,fun k hk hek=>?_⟩
    ·rcases s with s | ⟨k,hk,s1,s2⟩
     ·exact Or.inl s
     ·exact Or.inr ⟨k,by omega,s1,s2⟩
    ·by_cases ek:k=m
     ·subst ek;rw[hc];exact e1
     ·exact u k (by omega) hek
   ·rw[e1];have f0:n.a.B.get c o=c:=by rw[g.law.comm c o c0 c1 r.1 r.2,e1]
    refine⟨⟨c0,c1⟩,Or.inr ⟨m,by omega,he,hc.symm⟩,g.law.le_trans c0 c1 r.1 r.2 h0.1 h0.2 f0 t,fun k hk hek=>?_⟩;by_cases ek:k=m
    ·subst ek;rw[hc];rcases g.law.sel c c c0 c1 c0 c1 with e2 | e2 <;> exact e2
    ·obtain⟨d0,d1⟩:=n.cand g hf (i:=i) (k:=k) (by omega) hek;exact g.law.le_trans c0 c1 r.1 r.2 d0 d1 f0 (u k (by omega) hek)
  ·have e:n.out i j f (m+1)=n.out i j f m:=by rw[Net.out,if_neg he]
   rw[e];refine⟨r,?_,t,fun k hk hek=>?_⟩
   ·rcases s with s | ⟨k,hk,s1,s2⟩
    ·exact Or.inl s
    ·exact Or.inr ⟨k,by omega,s1,s2⟩
   ·by_cases ek:k=m
    ·subst ek;exact absurd hek he
    ·exact u k (by omega) hek
theorem Net.route_in (g:n.Good){f:Nat->Int}(hf:n.Routes f)(i j:Nat):0<=n.route i j f/\n.route i j f<n.a.size:=(n.out_spec g hf i j n.N lR).1
def Net.State (n:Net) (x:Nat->Nat->Int):Prop:=∀i j,i<n.N->j<n.N->0<=x i j/\x i j<n.a.size
theorem Net.State.round (g:n.Good){x:Nat->Nat->Int}(hx:n.State x):n.State (n.round x):=fun i j _ hj=>n.route_in g (fun k hk=>hx k j hk hj) i j
end
end Go.Proofs.YtjhkadffaephmacGreat
