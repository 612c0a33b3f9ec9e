import Derived.Test.YtjhkadffaephmacGreatCutRestStatesAI
import Derived.Lib.SliceRun
namespace Go.Proofs.YtjhkadffaephmacGreat
set_option maxHeartbeats 16000000
set_option maxRecDepth 100000
open Go.RowKit
structure Net.Is (n:Net) (t:Tab):Prop where
 len:t.len=n.N
 wide:∀r,r<n.N->t.L r=n.N
 state:n.State t.Z
theorem Net.is_of_rows {n:Net}{t:Tab}(g:n.Good)(h:n.rows t=0):n.Is t:=by
 have:=g.lo;unfold Net.rows at h;split at h
 ·cases h
 ·next h1 =>
  split at h
  ·cases h
  ·next h2 =>
   have:(t.len:Int)=n.nodes:=Classical.byContradiction fun e=>h1 (Or.inl e);have hw:t.wide n.nodes=true:=by
    cases e:t.wide n.nodes with
    | true=>rfl
    | false=>exact absurd (Or.inr e) h1
   have hr:t.routes n.a.size=true:=by simpa using h2
   have f0:t.len=n.N:=by unfold Net.N;omega
   have d0:∀r,r<n.N->t.L r=n.N:=fun r hr=>by
    have:=(t.wide_iff n.nodes).1 hw r (by omega);unfold Net.N;omega
   exact⟨f0,d0,fun i j hi hj=>(t.routes_iff n.a.size).1 hr i (by omega) j (by rw[d0 i hi];exact hj)⟩
theorem Net.is_of_fit {n:Net}{t:Tab}(h:n.fit t=0):n.check=0/\n.Is t:=by
 unfold Net.fit at h;by_cases hc:n.check=0
 ·rw[if_pos hc]at h;exact⟨hc,Net.is_of_rows (Net.good_of_check hc) h⟩
 ·rw[if_neg hc]at h;exact absurd h hc
theorem Net.Is.mk' {n:Net}{Z:Nat->Nat->Int}(h:n.State Z):n.Is ⟨n.N,fun _=>n.N,Z⟩:=⟨rfl,fun _ _=>rfl,h⟩
theorem qM (args:Array Value)(W:World):(callFunc 75 args).run Tryz.prog W=.ok (.enter 75 args) W:=by rfl
theorem OO (x:Mat)(k bx v j:Nat)(W:World)(hx:x.In k W)(hb:W.cell? ⟨bx,0,none⟩=some x.val)(hv:v<x.t.len)(hj:j<x.t.L v):
 Calls Tryz.prog 75 #[.int .i64 v,.int .i64 j,.pointer (some ⟨bx,0,none⟩)] W fun e w'=>e=.returned (.int .i64 (x.t.Z v j))/\∃m,w'=W.drewN m:=by
 obtain⟨a1,a2,a3⟩:=hx.at hv hj;rw[Mat.val,a1]at hb;have:(v:Int)<(x.t.len:Int):=by omega
 have:(j:Int)<(x.t.L v:Int):=by omega
 clear hx a1;go_enter Tryz.func75,Tryz.ntmps75;go_wp2;go_ret;exact⟨rfl,0,rfl⟩
theorem tL (n:dA)(x:Mat)(w:World)(h:n.In w.heap.size w)(hx:x.In w.heap.size w)(hck:n.net.check=0)(his:n.net.Is x.t):
 Calls Tryz.prog 38 #[n.val,x.val] w fun e w'=>(∃m:Mat,e=.returned m.val/\nC n.net.N w.heap.size (n.net.round x.t.Z) m w')/\Below w.heap.size w w':=by
 have g:=Net.good_of_check hck;have lo:=g.lo;have s0:=g.hi;obtain⟨N,hN⟩:∃N:Nat,n.nodes=N:=⟨n.nodes.toNat,by have:n.net.nodes=n.nodes:=rfl;omega⟩;have j0:n.net.N=N:=by show n.nodes.toNat=N;omega
 have E0:N<=6:=by have:n.net.nodes=n.nodes:=rfl;omega
 obtain⟨i2,z0,A0,B0,C0⟩:=info_parts Tryz.infoInts;have u0:∀u:World,(Instr.makeSlice 22 (.int .i64 (N:Int)) (.int .i64 (N:Int))).run Tryz.prog u=.ok (.slice (some ⟨u.heap.size,0,none⟩) N N) (u.alloc (.cells (madeCells #[.slice none 0 0] N) 32)):=fun u=>by
  have h:=run_make (P:=Tryz.prog) u 22 32 i2 (.slice none 0 0) Tryz.underlying22 z0 A0 .i64 .i64 (N:Int) (N:Int) (by omega) (Int.le_refl _) (by rw[C0];omega) (by omega);simpa [B0,Value.cells] using h
 have f0:n.cells=#[.int .i64 n.a.size,.slice n.a.B.ga n.a.B.t.len n.a.B.cap,.slice n.a.E.ga n.a.E.t.len n.a.E.cap,.int .i64 N,.slice n.la n.ln n.lc]:=by simp only[dA.cells,Mat.val,hN]
 have H:=hide h;have HX:=hide hx;have HK:=hide hck;have HI:=hide his;have k0:=hide j0;simp only[dA.val,Mat.val,f0];have d0:=hide f0;clear hN f0 h hx hck his j0 lo s0 g;go_enter Tryz.func38,Tryz.ntmps38;go_wp2_with fail
 go_loopw [7,14] (fun _ q wr=>∃k:Nat,k<=N/\q=.int .i64 k/\Hid (Below (w.heap.size+2) ((w.alloc (.cells n.cells 27)).alloc (.cells #[x.val] 22)) wr)/\Hid (∃g c:Nat->Nat,YC w.heap.size (w.heap.size+2) g c N N (n.net.round x.t.Z) k wr)) (fun _ q _=>N-(intOf q).toNat)
 case atStart =>
  refine⟨0,zL,rfl,hide ?_,hide ⟨fun _=>0,fun _=>0,?_⟩⟩
  ·rw[d0.out];exact(Below.refl _ _).alloc (by simp) _
  ·have:=YC.start ((w.alloc (.cells n.cells 27)).alloc (.cells #[x.val] 22)) w.heap.size N N (n.net.round x.t.Z) (by simp;omega);rw[d0.out]at this;simp only[World.size_alloc]at this;exact this
 case round =>
  obtain⟨k,hk,rfl,HB,HM⟩:=hrel;have g0:Below w.heap.size w wr:=(((Below.refl _ w).alloc lR _).alloc (by simp) _).trans (HB.out.mono (by omega));by_cases D0:k<N
  ·have bN:=((Blk.new w n.cells 27).alloc (.cells #[x.val] 22)).below HB.out (by omega);have bX:=(Blk.new (w.alloc (.cells n.cells 27)) #[x.val] 22).below HB.out (by simp);simp only[World.size_alloc]at bX;have x0:=bN.cell 0;have x1:=bN.cell 1;have x2:=bN.cell 2;have x3:=bN.cell 3;have x4:=bN.cell 4;simp[d0.out]at x0 x1 x2 x3 x4;have HC:=hide (zN 75 #[.pointer (some ⟨w.heap.size+1,0,none⟩)] n k (fun j v=>x.t.Z v j) wr (H.out.grown g0) HK.out (fun j hj v hv=>HI.out.state v j hv hj) qM (fun v j W hv hj hb=>by
    have:=OO x w.heap.size (w.heap.size+1) v j W (HX.out.below (g0.trans (hb.mono g0.size)) lR) ((bX.below hb bX.lt).cell 0) (by rw[HI.out.len];exact hv) (by rw[HI.out.wide v hv];exact hj);simpa using this))
   rw[k0.out]at HC;simp only[dA.val,d0.out]at HC;obtain⟨g,c,hM⟩:=HM.out;have v0:=hM.out;clear HM bX;go_wp2_with fail;go_at_call 76;refine HC.out.mono ?_;rintro e w2 ⟨rfl,i0,p0,q0⟩;have h0:=hM.below i0;have o1:=h0.out.cell k;rw[pF D0,if_neg (Nat.lt_irrefl _)]at o1;have of:=h0.out.frozen k;have F0:(k:Int)<(N:Int):=by omega
   have m0:Hid (∃g c:Nat->Nat,YC w.heap.size (w.heap.size+2) g c N N (n.net.round x.t.Z) (k+1) (w2.setCell ⟨w.heap.size+2,k,none⟩ (.slice (some ⟨wr.heap.size+1,0,none⟩) N N))) :=
    hide ⟨_,_,h0.put (by have:=g0.size;omega) p0 (by have:=hM.out.lt;omega) q0⟩
   have o0:=hide ((HB.out.trans (i0.mono (by have:=HB.out.size;simp at this;omega))).setCell (p:=⟨w.heap.size+2,k,none⟩) lR (.slice (some ⟨wr.heap.size+1,0,none⟩) N N));clear hM v0 h0 q0 p0 i0 HB HC x0 x1 x2 x3 x4 bN;go_wp2;go_roundw
   case rel =>
    first
    | exact⟨k+1,by omega,by go_num,o0,m0⟩
    | ((repeat apply Exists.intro);refine⟨?_,rfl⟩;exact⟨k+1,by omega,by go_num,o0,m0⟩)
   case measure=>simp[intOf];omega
  ·have w0:k=N:=by omega
   subst w0;have y0:=hide g0;clear g0;go_wp2;go_ret;obtain⟨g,c,hM⟩:=HM.out;obtain⟨m,e1,e2,e3,e4⟩:=hM.mat (by omega) (by omega);exact⟨⟨m,congrArg Ending.returned e1,by rw[k0.out];exact e2,e3,e4⟩,y0.out⟩
theorem zI (n:dA)(x:Mat)(w:World)(h:n.In w.heap.size w)(hx:x.In w.heap.size w)(hf:n.net.fit x.t=0):
 Calls Tryz.prog 11 #[n.val,x.val] w fun e w'=>(∃m:Mat,e=.returned (.tuple #[m.val,.int .i64 0])/\nC n.net.N w.heap.size (n.net.round x.t.Z) m w')/\Below w.heap.size w w':=by
 have d0:Below w.heap.size w (w.alloc (.cells n.cells 27)):=(Below.refl _ w).alloc lR _;have b0:=Blk.new w n.cells 27;have HF:=hide (BF n x _ (h.grown d0) (hx.grown d0));rw[hf]at HF;obtain⟨hc,hi⟩:=Net.is_of_fit hf;have HR:=hide (fun W (hb:Below w.heap.size w W)=>tL n x W (h.grown hb) (hx.grown hb) hc hi);clear hf hc hi h hx;simp only[dA.val,dA.cells,Mat.val]at *;go_enter Tryz.func11,Tryz.ntmps11;go_wp2_with fail;go_at_call 37;refine HF.out.mono ?_;rintro e w1 ⟨rfl,h0⟩;have f0:=d0.trans (h0.mono d0.size);have b1:=b0.below h0 b0.lt;have x0:=b1.cell 0;have x1:=b1.cell 1;have x2:=b1.cell 2;have x3:=b1.cell 3;have x4:=b1.cell 4;simp at x0 x1 x2 x3 x4;have g0:=hide (HR.out w1 f0);clear HR HF;go_wp2_with fail;go_at_call 38;refine g0.out.mono ?_;rintro e w2 ⟨⟨m,rfl,hm⟩,i0⟩;have HM:=hide hm;have HB:=hide (f0.trans (i0.mono f0.size));have j0:=f0.size;clear hm i0 g0;go_wp2;refine bodyPost_ret (v:=.tuple #[.slice m.ga m.t.len m.cap,.int .i64 0]) (by simp[results,Tryz.results11,go_sem]) rfl ?_;exact⟨⟨m,rfl,HM.out.1,HM.out.2.1,HM.out.2.2.1.mono j0,HM.out.2.2.2⟩,HB.out⟩
theorem wH (n:dA)(x:Mat)(w:World)(h:n.In w.heap.size w)(hx:x.In w.heap.size w)(hf:n.net.fit x.t≠0):
 Calls Tryz.prog 11 #[n.val,x.val] w fun e w'=>e=.returned (.tuple #[.slice none 0 0,.int .i64 (n.net.fit x.t)])/\Below w.heap.size w w':=by
 have d0:Below w.heap.size w (w.alloc (.cells n.cells 27)):=(Below.refl _ w).alloc lR _;have HF:=hide (BF n x _ (h.grown d0) (hx.grown d0));generalize n.net.fit x.t=ft at *;have:(ft != 0)=true:=by simp[hf]
 clear hf h hx;simp only[dA.val,dA.cells,Mat.val]at *;go_enter Tryz.func11,Tryz.ntmps11;go_wp2_with fail;go_at_call 37;refine HF.out.mono ?_;rintro e w1 ⟨rfl,f0⟩;have HB:=hide (d0.trans (f0.mono d0.size));clear HF f0 d0;go_wp2;exact bodyPost_ret (v:=.tuple #[.slice none 0 0,.int .i64 ft]) (by simp[results,Tryz.results11,go_sem]) rfl ⟨rfl,HB.out⟩
end Go.Proofs.YtjhkadffaephmacGreat

namespace Go.Proofs.YtjhkadffaephmacGreat
set_option maxHeartbeats 16000000
set_option maxRecDepth 100000
open Go
section
variable {P:Program} {ops:Array Oper} {Q:Exit->Act->World->Prop} {md:Region.Mode}
def sF (md:Region.Mode) (ops:Array Oper) (L:Nat):Bool :=
 (List.range L).all fun k=>(List.range (L+1)).any fun i=>decide (k<i) && (match ops[i]? with | some o=>(waits md o).contains k | none=>false)
def waitsFor (md:Region.Mode) (ops:Array Oper) (L:Nat):Bool :=
 (List.range ops.size).all fun i=>decide (i<=L) || (match ops[i]? with | some o=>(waits md o).contains L | none=>false)
def Shut (md:Region.Mode) (ops:Array Oper) (d:Nat->Bool):Prop:=∀i o,ops[i]? = some o->d i=true->∀j∈waits md o,d j=true
theorem ND {L:Nat}(h:sF md ops L=true){d:Nat->Bool}(hs:Shut md ops d){oL:Oper}(hL:ops[L]? = some oL)(hw:∀j∈waits md oL,d j=true):∀k,k<L->d k=true:=by
 have f0:∀m k,L-k<=m->k<L->d k=true:=by
  intro m
  induction m with
  | zero=>intro k h1 h2;omega
  | succ m ih =>
   intro k h1 h2;unfold sF at h;rw[List.all_eq_true]at h;have:=h k (by simpa using h2);rw[List.any_eq_true]at this;obtain⟨i,hi,hx⟩:=this;simp only[List.mem_range,Bool.and_eq_true,decide_eq_true_eq]at hi hx;obtain⟨g0,d0⟩:=hx;cases ho:ops[i]? with
   | none=>rw[ho]at d0;cases d0
   | some o =>
    rw[ho]at d0;have hm:k∈waits md o:=by simpa using d0
    by_cases e:i=L
    ·subst e;rw[hL]at ho;cases ho;exact hw k hm
    ·exact hs i o ho (ih i (by omega) (by omega)) k hm
 exact fun k hk=>f0 (L-k) k lR hk
theorem Shut.upd {d:Nat->Bool}(h:Shut md ops d){i:Nat}{o:Oper}(ho:ops[i]? = some o)(hw:∀j∈waits md o,d j=true):Shut md ops (NA d i):=by
 intro k o' hk hd j hj;unfold NA at hd |-;by_cases e:k=i
 ·subst e;rw[hk]at ho;cases ho;split
  ·rfl
  ·exact hw j hj
 ·rw[if_neg e]at hd;split
  ·rfl
  ·exact h k o' hk hd j hj
def LC (P:Program) (md:Region.Mode) (ops:Array Oper) (Q:Exit->Act->World->Prop) (L:Nat) (G:World->Prop) (E:Nat->Value->World->Prop) (a0:Act):List Oper->Nat->Prop
 | [],_=>True
 | o :: os,i=>(∀ (t:Nat->Value) (w:World),G w->(∀j∈waits md o,E j (t j) w)->(∀k,L<=k->t k=first ops.toList a0 k) ->
  ∀K:Act->World->Prop,(∀v w',G w'->E i v w'->(∀j u,j≠i->E j u w->E j u w')->K ((fill ops.toList 0 t a0).put o.dst v) w') ->
   if Region.wanted o (yielded ops (fill ops.toList 0 t a0).tmps)=true then Oper.wp P o (fill ops.toList 0 t a0) w K Q else K ((fill ops.toList 0 t a0).put o.dst undef) w) /\
  LC P md ops Q L G E a0 os (i+1)
theorem LC.at {L:Nat}{G:World->Prop}{E:Nat->Value->World->Prop}{a0:Act}:∀ (os:List Oper) (k i:Nat) (o:Oper),LC P md ops Q L G E a0 os k->os[i]? = some o ->
 ∀ (t:Nat->Value) (w:World),G w->(∀j∈waits md o,E j (t j) w)->(∀k,L<=k->t k=first ops.toList a0 k) ->
  ∀K:Act->World->Prop,(∀v w',G w'->E (k+i) v w'->(∀j u,j≠k+i->E j u w->E j u w')->K ((fill ops.toList 0 t a0).put o.dst v) w') ->
   if Region.wanted o (yielded ops (fill ops.toList 0 t a0).tmps)=true then Oper.wp P o (fill ops.toList 0 t a0) w K Q else K ((fill ops.toList 0 t a0).put o.dst undef) w
 | [],_,_,_,_,h=>by simp at h
 | o' :: os,k,0,o,he,h=>by
  simp at h;subst h;exact he.1
 | o' :: os,k,i+1,o,he,h=>by
  have:=LC.at os (k+1) i o he.2 (by simpa using h);rw[show k+1+i=k+(i+1) by omega]at this;exact this
def KD (P:Program) (ops:Array Oper) (Q:Exit->Act->World->Prop) (L:Nat) (G':Value->World->Prop) (E':Nat->Value->Value->Prop) (a0:Act):List Oper->Nat->Prop
 | [],_=>True
 | o :: os,i=>(∀ (t:Nat->Value) (w:World),G' (t L) w ->
  ∀K:Act->World->Prop,(∀v,E' i v (t L)->K ((fill ops.toList 0 t a0).put o.dst v) w) ->
   if Region.wanted o (yielded ops (fill ops.toList 0 t a0).tmps)=true then Oper.wp P o (fill ops.toList 0 t a0) w K Q else K ((fill ops.toList 0 t a0).put o.dst undef) w) /\
  KD P ops Q L G' E' a0 os (i+1)
theorem KD.at {L:Nat}{G':Value->World->Prop}{E':Nat->Value->Value->Prop}{a0:Act}:∀ (os:List Oper) (k i:Nat) (o:Oper),KD P ops Q L G' E' a0 os k->os[i]? = some o ->
 ∀ (t:Nat->Value) (w:World),G' (t L) w ->
  ∀K:Act->World->Prop,(∀v,E' (k+i) v (t L)->K ((fill ops.toList 0 t a0).put o.dst v) w) ->
   if Region.wanted o (yielded ops (fill ops.toList 0 t a0).tmps)=true then Oper.wp P o (fill ops.toList 0 t a0) w K Q else K ((fill ops.toList 0 t a0).put o.dst undef) w
 | [],_,_,_,_,h=>by simp at h
 | o' :: os,k,0,o,he,h=>by
  simp at h;subst h;exact he.1
 | o' :: os,k,i+1,o,he,h=>by
  have:=KD.at os (k+1) i o he.2 (by simpa using h);rw[show k+1+i=k+(i+1) by omega]at this;exact this
structure JU (md:Region.Mode) (ops:Array Oper) (a0:Act) (L:Nat) (G:World->Prop) (E:Nat->Value->World->Prop) (G':Value->World->Prop) (E':Nat->Value->Value->Prop) (d:Nat->Bool) (t:Nat->Value) (w:World):Prop where
 shut:Shut md ops d
 ahead:d L=false->G w/\(∀k,k<L->d k=true->E k (t k) w)/\∀k,L<=k->t k=first ops.toList a0 k
 behind:d L=true->G' (t L) w/\∀k,L<k->k<ops.size->d k=true->E' k (t k) (t L)
theorem KH {L:Nat}{G:World->Prop}{E:Nat->Value->World->Prop}{G':Value->World->Prop}{E':Nat->Value->Value->Prop}{a0:Act}
 (hb:WB md ops.toList 0=true) (hc:sF md ops L=true) (hf:waitsFor md ops L=true) {oL:Oper} (hoL:ops[L]? = some oL)
 (hs:LC P md ops Q L G E a0 (ops.toList.take L) 0)
 (hL:∀ (t:Nat->Value) (w:World),G w->(∀k,k<L->E k (t k) w)->(∀k,L<=k->t k=first ops.toList a0 k)->∀K:Act->World->Prop,(∀v w',G' v w'->K ((fill ops.toList 0 t a0).put oL.dst v) w') ->
  if Region.wanted oL (yielded ops (fill ops.toList 0 t a0).tmps)=true then Oper.wp P oL (fill ops.toList 0 t a0) w K Q else K ((fill ops.toList 0 t a0).put oL.dst undef) w)
 (ha:KD P ops Q L G' E' a0 (ops.toList.drop (L+1)) (L+1)) :
 ∀ (os:List Oper) (i:Nat),(∀j o,os[j]? = some o->ops[i+j]? = some o)->UF P md ops Q (JU md ops a0 L G E G' E') a0 os i
 | [],_,_=>trivial
 | o :: os,i,hos=>by
  refine⟨?_,KH hb hc hf hoL hs hL ha os (i+1) (fun j o' hj=>by rw[show i+1+j=i+(j+1) by omega];exact hos (j+1) o' (by simpa using hj))⟩;have ho:ops[i]? = some o:=by simpa using hos 0 o rfl
  intro d t w hI hd hp K hK;have h0:=hI.shut.upd ho hp;rcases Nat.lt_trichotomy i L with hlt | heq | hgt
  ·have d0:d L=false:=by
    cases e:d L with
    | false=>rfl
    | true =>
     have:=ND hc hI.shut hoL (hI.shut L oL hoL e) i hlt;rw[hd]at this;cases this
   obtain⟨hG,hE,hT⟩:=hI.ahead d0;have g0:=LC.at (ops.toList.take L) 0 i o hs (by rw[List.getElem?_take,if_pos hlt];simpa using ho) t w hG (fun j hj=>by
    have i0:=hp j hj;refine hE j ?_ i0;rcases Nat.lt_trichotomy j L with h | h | h
    ·exact h
    ·subst h;rw[d0]at i0;cases i0
    ·exfalso;have p0:j<i:=by
      simp only[waits,List.mem_map,List.mem_filter]at hj;obtain⟨e,⟨he,m0⟩,rfl⟩:=hj;have:=BD md ops.toList 0 i o hb (by simpa using ho) e (by simpa using he) m0;omega
     omega) hT K
   refine g0 (fun v w' f0 hEi hkeep=>hK v w' ⟨h0,fun _=>⟨f0,fun k hk hdk=>?_,fun k hk=>by rw[MB t v (by omega)];exact hT k hk⟩,fun e=>?_⟩)
   ·rw[Nat.zero_add]at hEi hkeep;by_cases e:k=i
    ·subst e;rw[upd_same];exact hEi
    ·rw[MB t v e];have:d k=true:=by simpa [NA,e] using hdk
     exact hkeep k (t k) e (hE k hk this)
   ·have:d L=true:=by simpa [NA,Nat.ne_of_gt hlt] using e
    rw[d0]at this;cases this
  ·subst heq;rw[hoL]at ho;cases ho;obtain⟨hG,hE,hT⟩:=hI.ahead hd;have j0:=ND hc hI.shut hoL hp;refine hL t w hG (fun k hk=>hE k hk (j0 k hk)) hT K (fun v w' f0=>hK v w' ⟨h0,fun e=>?_,fun _=>⟨by rw[upd_same];exact f0,fun k hk hks hdk=>?_⟩⟩)
   ·simp[NA]at e
   ·exfalso;have k0:d k=true:=by simpa [NA,Nat.ne_of_gt hk] using hdk
    unfold waitsFor at hf;rw[List.all_eq_true]at hf;have:=hf k (by simpa using hks);rw[Array.getElem?_eq_getElem hks]at this;simp only[Bool.or_eq_true,decide_eq_true_eq]at this;rcases this with h | h
    ·omega
    ·have:=hI.shut k ops[k] (Array.getElem?_eq_getElem hks) k0 i (by simpa using h);rw[hd]at this;cases this
  ·have d0:d L=true:=by
    unfold waitsFor at hf;rw[List.all_eq_true]at hf;have:=hf i (by simpa using (Array.getElem?_eq_some_iff.1 ho).1);rw[ho]at this;simp only[Bool.or_eq_true,decide_eq_true_eq]at this;rcases this with h | h
    ·omega
    ·exact hp L (by simpa using h)
   obtain⟨f0,o0⟩:=hI.behind d0;have g0:=KD.at (ops.toList.drop (L+1)) (L+1) (i-(L+1)) o ha (by rw[List.getElem?_drop,show L+1+(i-(L+1))=i by omega];simpa using ho) t w f0 K;rw[show L+1+(i-(L+1))=i by omega]at g0;refine g0 (fun v hv=>hK v w ⟨h0,fun e=>?_,fun _=>?_⟩)
   ·have:d L=false:=by simpa [NA,Nat.ne_of_lt hgt] using e
    rw[d0]at this;cases this
   ·rw[MB t v (Nat.ne_of_lt hgt)];refine⟨f0,fun k hk hks hdk=>?_⟩;by_cases e:k=i
    ·subst e;rw[upd_same];exact hv
    ·rw[MB t v e];exact o0 k hk hks (by simpa [NA,e] using hdk)
theorem KA {id:Nat}{a:Act}{w:World}(L:Nat)(oL:Oper)(G:World->Prop)(E:Nat->Value->World->Prop)(G':Value->World->Prop)(E':Nat->Value->Value->Prop)(hm:P.follows .mixedOrders=true)
 (hap:uC ops.toList=true) (hb:WB .any ops.toList 0=true) (hc:sF .any ops L=true) (hf:waitsFor .any ops L=true) (hoL:ops[L]? = some oL) (hG:G w.drew)
 (hs:LC P .any ops Q L G E a (ops.toList.take L) 0)
 (hL:∀ (t:Nat->Value) (w:World),G w->(∀k,k<L->E k (t k) w)->(∀k,L<=k->t k=first ops.toList a k)->∀K:Act->World->Prop,(∀v w',G' v w'->K ((fill ops.toList 0 t a).put oL.dst v) w') ->
  if Region.wanted oL (yielded ops (fill ops.toList 0 t a).tmps)=true then Oper.wp P oL (fill ops.toList 0 t a) w K Q else K ((fill ops.toList 0 t a).put oL.dst undef) w)
 (ha:KD P ops Q L G' E' a (ops.toList.drop (L+1)) (L+1))
 (hend:∀ (t:Nat->Value) (w:World),G' (t L) w->(∀k,L<k->k<ops.size->E' k (t k) (t L))->Q .normal (fill ops.toList 0 t a) w) :
 (Code.region id ops true).wp P Q a w:=by
 have d0:L<ops.size:=(Array.getElem?_eq_some_iff.1 hoL).1;refine wp_region_any hm ?_;have hz:(fun i=>(Array.replicate ops.size false).getD i false)=fun _=>false:=by
  funext i;by_cases hi:i<ops.size
  ·simp[hi]
  ·simp[hi]
 have:=uE (md:=.any) (I:=JU .any ops a L G E G' E') hap hb (KH hb hc hf hoL hs hL ha ops.toList 0 (fun j o hj=>by simpa using hj)) (fun d t w hI hall=>by
  obtain⟨h1,h2⟩:=hI.behind (hall L d0);exact hend t w h1 (fun k hk hks=>h2 k hk hks (hall k hks))) ops.size (Array.replicate ops.size false) (first ops.toList a) w.drew (by simp) (by simp)
  (by rw[hz];exact⟨fun i o _ h=>by simp at h,fun _=>⟨hG,fun k _ h=>by simp at h,fun _ _=>rfl⟩,fun h=>by simp at h⟩)
 rw[lD]at this;exact this
end
end Go.Proofs.YtjhkadffaephmacGreat

namespace Go.Proofs.YtjhkadffaephmacGreat
set_option maxHeartbeats 16000000
set_option maxRecDepth 100000
open Go.RowKit
theorem MG (a:Option Addr)(p q b o:Nat)(f:Nat->Int)(w:World)(h:Ints a p b o f w)(hp:0<p)(hp1:p<=100)(hb:b<w.heap.size):
 Calls Tryz.prog 77 #[.slice a p q] w fun e w'=>∃g c:Nat,e=.returned (.slice (some ⟨g,0,none⟩) p c)/\Below w.heap.size w w'/\w.heap.size<=g/\yB w' g/\∀j,j<p->w'.cell? ⟨g,j,none⟩=some (.int .i64 (f j)):=by
 obtain⟨i1,s0,u0,v0,w0⟩:=info_parts Tryz.infoInt;have ha:=h.addr hp;subst ha;have m0:Below w.heap.size w (w.alloc (.cells #[] 3)):=(Below.refl _ w).alloc lR _;have h2:=h.below m0 (fun _=>hb);have f0:World.ownsRow (w.alloc (.cells #[] 3)) w.heap.size 3 1 (.slice (some ⟨w.heap.size,0,none⟩) 0 0) 0 [] :=
  World.ownsRow_made w #[] 0 (base:=w.heap.size) (e:=3) (size:=1) lR zL (by simp)
 have hl:(JA f p).length=p*1:=by rw[zC,Nat.mul_one]
 have g0:∀j u,(JA f p)[j]? = some u->(w.alloc (.cells #[] 3)).cell? ((⟨b,o,none⟩:Addr).add j)=some u:=fun j u hu=>by
  have hj:j<p:=by
   rcases Nat.lt_or_ge j p with h' | h'
   ·exact h'
   ·rw[List.getElem?_eq_none (by rw[zC];exact h')]at hu;cases hu
  rw[NB hj]at hu;cases hu;rw[Go.WideShapes.add_plain];exact h2.cell j hj
 have j0:∀u∈JA f p,u.oneCell'=true:=fun u hu=>by
  simp only[JA,List.mem_map]at hu;obtain⟨j,_,rfl⟩:=hu;rfl
 have:=Lib.run_eql_slice_nil (P:=Tryz.prog) w 32 3 (some ⟨b,o,none⟩) p q 0 0 Tryz.underlying32;have o0:=hide f0;have k0:=hide g0;have p0:=hide j0;have q0:=hide m0;clear h h2 m0 f0 g0 j0;go_enter Tryz.func77,Tryz.ntmps77;go_wp2_with (at_builtin;refine wpList_append_lies _ rfl _ _ _ rfl w.heap.size 3 i1 _ 1 8 Tryz.underlying32 s0 u0 v0 w0 rfl (by decide) _ 0 [] rfl o0.out ⟨b,o,none⟩ p q (JA f p) rfl hl k0.out p0.out hp ?c3 ?c4 ?c5 _ rfl ?_)
 all_goals try (case c3=>unfold maxLen;omega)
 all_goals try (case c4=>omega)
 all_goals try (case c5=>simp)
 intro g c w' d0 i0 x0 y0;have hB:Below w.heap.size w w':=q0.out.grown i0 (by simp) (fun k hk=>by cases hk;exact lR);have h0:∀j,j<p->w'.cell? ⟨g,j,none⟩=some (.int .i64 (f j)):=fun j hj=>by
  rw[d0.cellAt j (by omega),NB hj]
 have hg:=(d0.lt g rfl).1;have HF:=hide (And.intro hB (And.intro hg (And.intro (yB.own d0) h0)));clear d0 i0 x0 y0 hB h0 hg;go_wp2;go_ret;exact⟨g,c,rfl,HF.out⟩
theorem kT (x:Mat)(N:Nat)(w:World)(h:x.In w.heap.size w)(hl:x.t.len=N)(hw:∀r,r<N->x.t.L r=N)(hN:N<=100):
 Calls Tryz.prog 40 #[x.val] w fun e w'=>(∃m:Mat,e=.returned m.val/\nC N w.heap.size x.t.Z m w')/\Below w.heap.size w w':=by
 obtain⟨i2,u0,v0,w0,x0⟩:=info_parts Tryz.infoInts;have:∀u:World,(Instr.makeSlice 22 (.int .i64 (N:Int)) (.int .i64 (N:Int))).run Tryz.prog u=.ok (.slice (some ⟨u.heap.size,0,none⟩) N N) (u.alloc (.cells (madeCells #[.slice none 0 0] N) 32)):=fun u=>by
  have h:=run_make (P:=Tryz.prog) u 22 32 i2 (.slice none 0 0) Tryz.underlying22 u0 v0 .i64 .i64 (N:Int) (N:Int) (by omega) (Int.le_refl _) (by rw[x0];omega) (by omega);simpa [w0,Value.cells] using h
 have H:=hide h;have HW:=hide hw;have HL:=hide hl;simp only[Mat.val,hl];clear h hw hl;go_enter Tryz.func40,Tryz.ntmps40;go_wp2_with fail
 go_loopw [4,5,11] (fun _ _ q wr=>∃k:Nat,k<=N/\q=.int .i64 k/\Hid (Below w.heap.size w wr)/\Hid (∃g c:Nat->Nat,YC w.heap.size w.heap.size g c N N x.t.Z k wr)) (fun _ _ q _=>N-(intOf q).toNat)
 case atStart=>exact⟨0,zL,rfl,hide ((Below.refl _ _).alloc lR _),hide ⟨_,_,YC.start w w.heap.size N N x.t.Z lR⟩⟩
 case round =>
  obtain⟨k,hk,rfl,HB,HM⟩:=hrel;by_cases f0:k<N
  ·have g0:k<x.t.len:=by rw[HL.out];exact f0
   have hI:=H.out.below HB.out lR;have q0:=hI.ga (by omega);have h0:=hI.row k g0;have k0:=hI.addr k g0 (by rw[HW.out k f0];omega);have i0:Ints (x.A k) (x.t.L k) (x.RB k) (x.RO k) (x.t.Z k) wr:=hI.ints g0;rw[HW.out k f0]at h0 i0;have HC:=hide (MG (x.A k) N (x.C k) (x.RB k) (x.RO k) (x.t.Z k) wr i0 (by omega) hN (Nat.lt_of_lt_of_le k0.2 HB.out.size));have:(k:Int)<(N:Int):=by omega
   obtain⟨g,c,hM⟩:=HM.out;clear HM i0 hI k0;go_wp2_with fail;go_at_call 77;refine HC.out.mono ?_;rintro e w2 ⟨gn,cn,rfl,j0,y0,p0,hz⟩;have d0:=hM.below j0;have o1:=d0.out.cell k;rw[pF f0,if_neg (Nat.lt_irrefl _)]at o1;have:=d0.out.frozen k;have m0:Hid (∃g c:Nat->Nat,YC w.heap.size w.heap.size g c N N x.t.Z (k+1) (w2.setCell ⟨w.heap.size,k,none⟩ (.slice (some ⟨gn,0,none⟩) N cn))) :=
    hide ⟨_,_,d0.put (by have:=HB.out.size;omega) p0 (by have:=hM.out.lt;omega) hz⟩
   have o0:=hide ((HB.out.trans (j0.mono HB.out.size)).setCell (p:=⟨w.heap.size,k,none⟩) lR (.slice (some ⟨gn,0,none⟩) N cn));clear hM d0 hz y0 p0 j0 HB HC;go_wp2;go_roundw
   case rel =>
    first
    | exact⟨k+1,by omega,by go_num,o0,m0⟩
    | ((try rw[<-q0]);(repeat apply Exists.intro);refine⟨?_,rfl⟩;exact⟨k+1,by omega,by go_num,o0,m0⟩)
   case measure=>simp[intOf];omega
  ·have s0:k=N:=by omega
   subst s0;obtain⟨g,c,hM⟩:=HM.out;obtain⟨m,e1,e2,e3,e4⟩:=hM.mat (by omega) (by omega);have He:=hide e1;have HF:Hid (nC k w.heap.size x.t.Z m wr):=hide ⟨e2,e3,e4⟩;clear hM e1 e2 e3 e4 HM;go_wp2;go_ret;exact⟨⟨m,congrArg Ending.returned He.out,HF.out⟩,HB.out⟩
theorem JO (a1 a2:Option Addr)(l1 l2 q1 q2 b1 o1 b2 o2:Nat)(f g:Nat->Int)(w:World)(h1:Ints a1 l1 b1 o1 f w)(h2:Ints a2 l2 b2 o2 g w):
 Calls Tryz.prog 80 #[.slice a1 l1 q1,.slice a2 l2 q2] w fun e w'=>e=.returned (.bool (XA l1 l2 f g))/\∃m,w'=w.drewN m:=by
 have g0:=h1.len;have h0:=h2.len;unfold maxLen at g0 h0;by_cases hl:l1=l2
 ·subst hl;go_enter Tryz.func80,Tryz.ntmps80;go_wp2
  go_loopw [5,13] (fun _ i wr=>∃k:Nat,k<=l1/\i=.int .i64 k/\Hid (∀r,r<k->f r=g r)/\Hid (∃m,wr=w.drewN m)) (fun _ i _=>l1-(intOf i).toNat)
  case atStart=>exact⟨0,zL,rfl,hide (fun r hr=>absurd hr nZ),hide ⟨0,rfl⟩⟩
  case round =>
   obtain⟨k,hk,rfl,d0,HD⟩:=hrel;by_cases f0:k<l1
   ·have i0:=h1.addr (by omega);have j0:=h2.addr (by omega);have:wr.cell? ⟨b1,o1+k,none⟩=some (.int .i64 (f k)):=by obtain⟨m,rfl⟩:=HD.out;exact h1.cell k f0
    have:wr.cell? ⟨b2,o2+k,none⟩=some (.int .i64 (g k)):=by obtain⟨m,rfl⟩:=HD.out;exact h2.cell k f0
    have:(k:Int)<(l1:Int):=by omega
    by_cases he:f k=g k
    ·have k0:(f k != g k)=false:=by simp[he]
     have He:=hide he;clear he;go_wp2_with fail
     go_quiet (fail)
     go_wp2;go_roundw
     case rel =>
      have hn:∀r,r<k+1->f r=g r:=fun r hr=>by
       by_cases e:r=k
       ·subst e;exact He.out
       ·exact d0.out r (by omega)
      first
      | exact⟨k+1,by omega,by go_num,hide hn,hide (by obtain⟨m,rfl⟩:=HD.out;exact⟨_,by rw[World.drewN_drewN]⟩)⟩
      | ((try rw[<-i0]);(try rw[<-j0]);(repeat apply Exists.intro);refine⟨?_,rfl⟩;exact⟨k+1,by omega,by go_num,hide hn,hide (by obtain⟨m,rfl⟩:=HD.out;exact⟨_,by rw[World.drewN_drewN]⟩)⟩)
     case measure=>simp[intOf];omega
    ·have k0:(f k != g k)=true:=by simp[he]
     have Hw:=hide (aG (m:=l1) f0 he);clear he;go_wp2_with fail
     go_quiet (fail)
     go_wp2;go_ret;exact⟨by rw[Hw.out];rfl,by obtain⟨m,rfl⟩:=HD.out;exact⟨_,by rw[World.drewN_drewN]⟩⟩
   ·have Hw:Hid (XA l1 l1 f g=true):=hide (WC.2 ⟨rfl,fun i hi=>d0.out i (by omega)⟩);go_wp2;go_ret;exact⟨by rw[Hw.out];rfl,HD.out⟩
 ·have:((l1:Int) != (l2:Int))=true:=by simp;omega
  have Hw:Hid (XA l1 l2 f g=false):=hide (by simp[XA,hl]);clear hl;go_enter Tryz.func80,Tryz.ntmps80;go_wp2;go_ret;exact⟨by rw[Hw.out];rfl,0,rfl⟩
theorem uQ (a1 a2:Option Addr)(l1 l2 q1 q2 b1 o1 b2 o2:Nat)(f g:Nat->Int)(w:World)(h1:Ints a1 l1 b1 o1 f w)(h2:Ints a2 l2 b2 o2 g w):
 Calls Tryz.prog 79 #[.slice a1 l1 q1,.slice a2 l2 q2] w fun e w'=>e=.returned (.bool (XA l1 l2 f g))/\∃m,w'=w.drewN m:=by
 have HC:=hide (JO a1 a2 l1 l2 q1 q2 b1 o1 b2 o2 f g w h1 h2);clear h1 h2;go_enter Tryz.func79,Tryz.ntmps79;go_wp2_with fail;go_at_call 80;refine HC.out.mono ?_;rintro e w1 ⟨rfl,m,rfl⟩;go_wp2;go_ret;exact⟨rfl,m,rfl⟩
theorem bO (args:Array Value)(W:World):(callFunc 79 args).run Tryz.prog W=.ok (.enter 79 args) W:=by rfl
theorem MK (x y:Mat)(n:Nat)(w:World)(h1:x.In n w)(h2:y.In n w):
 Calls Tryz.prog 78 #[x.val,y.val,.func (.func 79) #[] #[]] w fun e w'=>e=.returned (.bool (x.t.same y.t))/\∃m,w'=w.drewN m:=by
 have h0:=h1.len;have i0:=h2.len;unfold maxLen at h0 i0;have:=bO;simp only[Mat.val];by_cases hl:x.t.len=y.t.len
 ·have Hl:=hide hl;have j0:((x.t.len:Int) != (y.t.len:Int))=false:=by simp[hl]
  clear hl;go_enter Tryz.func78,Tryz.ntmps78;go_wp2
  go_loopw [7,8,9,17] (fun _ _ _ i wr=>∃k:Nat,k<=x.t.len/\i=.int .i64 k/\Hid (∀r,r<k->XA (x.t.L r) (y.t.L r) (x.t.Z r) (y.t.Z r)=true)/\Hid (∃m,wr=w.drewN m)) (fun _ _ _ i _=>x.t.len-(intOf i).toNat)
  case atStart=>exact⟨0,zL,rfl,hide (fun r hr=>absurd hr nZ),hide ⟨0,rfl⟩⟩
  case round =>
   obtain⟨k,hk,rfl,f0,HD⟩:=hrel;by_cases g0:k<x.t.len
   ·have d0:k<y.t.len:=by have:=Hl.out;omega
    have k0:=h1.ga (by omega);have m0:=h2.ga (by omega);have:wr.cell? ⟨x.gb,x.go+k,none⟩=some (.slice (x.A k) (x.t.L k) (x.C k)):=by obtain⟨m,rfl⟩:=HD.out;exact h1.row k g0
    have:wr.cell? ⟨y.gb,y.go+k,none⟩=some (.slice (y.A k) (y.t.L k) (y.C k)):=by obtain⟨m,rfl⟩:=HD.out;exact h2.row k d0
    have:(k:Int)<(x.t.len:Int):=by omega
    have:(k:Int)<(y.t.len:Int):=by omega
    have hS:=hide (uQ (x.A k) (y.A k) (x.t.L k) (y.t.L k) (x.C k) (y.C k) _ _ _ _ _ _ wr (by obtain⟨m,rfl⟩:=HD.out;exact kD (h1.ints g0) m) (by obtain⟨m,rfl⟩:=HD.out;exact kD (h2.ints d0) m));cases hs:XA (x.t.L k) (y.t.L k) (x.t.Z k) (y.t.Z k) with
    | true =>
     simp only[hs]at hS;have Hs:=hide hs;clear hs;go_wp2_with fail;refine hS.out.mono ?_;rintro e w' ⟨rfl,q,rfl⟩;go_wp2;go_roundw
     case rel =>
      have hn:∀r,r<k+1->XA (x.t.L r) (y.t.L r) (x.t.Z r) (y.t.Z r)=true:=fun r hr=>by
       by_cases e:r=k
       ·subst e;exact Hs.out
       ·exact f0.out r (by omega)
      first
      | exact⟨k+1,by omega,by go_num,hide hn,hide (by obtain⟨m,rfl⟩:=HD.out;exact⟨_,by rw[World.drewN_drewN]⟩)⟩
      | ((try rw[<-k0]);(try rw[<-m0]);(repeat apply Exists.intro);refine⟨?_,rfl⟩;exact⟨k+1,by omega,by go_num,hide hn,hide (by obtain⟨m,rfl⟩:=HD.out;exact⟨_,by rw[World.drewN_drewN]⟩)⟩)
     case measure=>simp[intOf];omega
    | false =>
     simp only[hs]at hS;have Hw:=hide (Tab.same_false g0 hs);clear hs;go_wp2_with fail;refine hS.out.mono ?_;rintro e w' ⟨rfl,q,rfl⟩;go_wp2;go_ret;exact⟨by rw[Hw.out];rfl,by obtain⟨m,rfl⟩:=HD.out;exact⟨_,by rw[World.drewN_drewN]⟩⟩
   ·have Hw:Hid (x.t.same y.t=true):=hide (Tab.same_true Hl.out (fun i hi=>f0.out i (by omega)));go_wp2;go_ret;exact⟨by rw[Hw.out];rfl,HD.out⟩
 ·have j0:((x.t.len:Int) != (y.t.len:Int))=true:=by simp;omega
  have Hw:Hid (x.t.same y.t=false):=hide (by simp[Tab.same,hl]);clear hl;go_enter Tryz.func78,Tryz.ntmps78;go_wp2;go_ret;exact⟨by rw[Hw.out];rfl,0,rfl⟩
theorem nS (x y:Mat)(n:Nat)(w:World)(h1:x.In n w)(h2:y.In n w):
 Calls Tryz.prog 42 #[x.val,y.val] w fun e w'=>e=.returned (.bool (x.t.same y.t))/\∃m,w'=w.drewN m:=by
 have HC:=hide (MK x y n w h1 h2);simp only[Mat.val]at HC |-;clear h1 h2;go_enter Tryz.func42,Tryz.ntmps42;go_wp2_with fail;go_at_call 78;refine HC.out.mono ?_;rintro e w1 ⟨rfl,m,rfl⟩;go_wp2;go_ret;exact⟨rfl,m,rfl⟩
theorem dA.In.edgeAt {n:dA}{N:Nat}{w:World}(h:n.In N w)(g:n.net.Good){e s:Nat}(he:(e:Int)<n.a.E.t.len)(hs:(s:Int)<n.a.size):
 n.a.E.ga=some ⟨n.a.E.gb,n.a.E.go,none⟩/\w.cell? ⟨n.a.E.gb,n.a.E.go+e,none⟩=some (.slice (some ⟨n.a.E.RB e,n.a.E.RO e,none⟩) (n.a.E.t.L e) (n.a.E.C e))/\w.cell? ⟨n.a.E.RB e,n.a.E.RO e+s,none⟩=some (.int .i64 (n.net.a.E.get e s))/\(s:Int)<(n.a.E.t.L e:Int):=by
 have hL:s<n.a.E.t.L e:=by
  have e1:=g.law.good.ew e (show e<n.a.E.t.len by omega);have e3:n.net.a.E.L e=n.a.E.t.L e:=rfl;have e4:n.net.a.size=n.a.size:=rfl;omega
 obtain⟨a1,a2,a3⟩:=h.a.E.at (show e<n.a.E.t.len by omega) hL;exact⟨a1,a2,by rw[a3];show _=some (Value.int .i64 (n.a.E.t.Z (e:Int).toNat (s:Int).toNat));rw[Int.toNat_natCast,Int.toNat_natCast],by omega⟩
end Go.Proofs.YtjhkadffaephmacGreat
