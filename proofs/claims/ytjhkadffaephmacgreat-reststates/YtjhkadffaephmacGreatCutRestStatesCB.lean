import Derived.Test.YtjhkadffaephmacGreatCutRestStatesCA
import Derived.Lib.AppendZeros
namespace Go.Proofs.YtjhkadffaephmacGreat
set_option maxHeartbeats 16000000
set_option maxRecDepth 100000
open Go.RowKit
theorem xG (W:World)(g:Nat)(a:Option Addr)(l q b o:Nat)(f:Nat->Int)(h:Ints a l b o f W)(hl:l<=100)(ty:TypeId):
 ∃ (a':Option Addr) (c b':Nat) (W2:World),(Builtin.append_ #[32,32] ty #[.slice (some ⟨g,0,none⟩) 0 0,.slice a l q]).run Tryz.prog W=.ok (.slice a' l c) W2/\Ints a' l b' 0 f W2/\(0<l->(∃cs,Blk W2 b' cs 3)/\W.heap.size<=b')/\Below W.heap.size W W2:=by
 by_cases hp:0<l
 ·obtain rfl:=h.addr hp;obtain⟨i1,f0,g0,d0,i0⟩:=info_parts Tryz.infoInt;have hr:=run_append_grow (P:=Tryz.prog) W 32 ty 3 i1 _ Tryz.underlying32 f0 g0 ⟨g,0,none⟩ 0 0 [] (by rw[d0];rfl) (fun j v hv=>by simp at hv) ⟨b,o,none⟩ l q (JA f l) (by rw[zC,d0,Nat.mul_one]) (fun j u hu=>by
   have hj:j<l:=by
    rcases Nat.lt_or_ge j l with h' | h'
    ·exact h'
    ·rw[List.getElem?_eq_none (by rw[zC];exact h')]at hu;cases hu
   rw[NB hj]at hu;cases hu;rw[Go.WideShapes.add_plain];exact h.cell j hj) (by omega) (by omega) (growslice_fits (by omega) (by rw[i0];omega))
  rw[Nat.zero_add]at hr;refine⟨_,_,W.heap.size,_,hr,⟨fun _=>rfl,fun i hi=>?_,h.len⟩,fun _=>⟨⟨_,Blk.new W.drew _ _⟩,lR⟩,(Below.refl W.heap.size W).drew.alloc lR _⟩;refine((Blk.new W.drew _ _).cell (0+i)).trans ?_;rw[Nat.zero_add,Array.getElem?_append_left (by simp[zC];omega)];simp[NB hi]
 ·obtain rfl:l=0:=by omega
  exact⟨_,_,0,_,wG W ty g a q,⟨fun h0=>absurd h0 (Nat.lt_irrefl _),fun i hi=>absurd hi nZ,h.len⟩,fun h0=>absurd h0 (Nat.lt_irrefl _),Below.refl _ _⟩
section
variable {base P N:Nat} {e e':Eng} {Bv:Value} {y:Lay} {W W':World}
theorem Live.congr (h:Live base P N e Bv y W)(hR:∀i j,i<N->j<N->e.R i j=e'.R i j)(ht:∀i k,i<N->k<N->e.told i k=e'.told i k)(hD:∀i k j,i<N->k<N->j<N->e.told i k=true->e.D i k j=e'.D i k j)(hb:e.bag=e'.bag):Live base P N e' Bv y W :=
 ⟨h.head,h.rtrs,h.r0,h.r1,h.tolds,fun i hi k hk=>by rw[<-ht i k hi hk];exact h.t0 i hi k hk,fun i hi=>⟨(h.routes i hi).1,fun j hj=>by rw[<-hR i j hi hj];exact(h.routes i hi).2 j hj⟩,
  fun i hi k hk h1=>by
   have h2:e.told i k=true:=by rw[ht i k hi hk];exact h1
   obtain⟨q1,q2,q3⟩:=h.rows i hi k hk h2;exact⟨q1,q2,fun j hj=>by rw[<-hD i k j hi hk hj h2];exact q3 j hj⟩,by rw[<-hb];exact h.bag,h.lp,h.lg,h.lt,h.pg,h.pt,h.gt,h.tt,h.bv,h.ylo,h.sr,fun i hi k hk h1=>h.sd i hi k hk (by rw[ht i k hi hk];exact h1)⟩
theorem Live.rebox (h:Live base P N e Bv y W):Live base W.heap.size N e Bv y (W.alloc (.cells #[.slice (some ⟨y.G,0,none⟩) N y.gc,Bv] 31)):=by
 have hb:Below W.heap.size W (W.alloc (.cells #[.slice (some ⟨y.G,0,none⟩) N y.gc,Bv] 31)):=(Below.refl _ W).alloc lR _;have h2:=h.below hb;have hP:=h.head.lt;have hp:=h.lp;have off:∀b,y.Off P N Bv W b->y.Off W.heap.size N Bv (W.alloc (.cells #[.slice (some ⟨y.G,0,none⟩) N y.gc,Bv] 31)) b:=fun b ho=>⟨Nat.ne_of_lt ho.lt,ho.g,ho.t,ho.v,Nat.lt_of_lt_of_le ho.lt hb.size,ho.lo⟩;exact⟨Blk.new W _ _,h2.rtrs,h2.r0,h2.r1,h2.tolds,h2.t0,fun i hi=>⟨off _ (h.routes i hi).1,(h2.routes i hi).2⟩,fun i hi k hk ht=>⟨(h.rows i hi k hk ht).1,off _ (h.rows i hi k hk ht).2.1,(h2.rows i hi k hk ht).2.2⟩,h2.bag,by omega,h.lg,h.lt,(Nat.ne_of_lt h.rtrs.lt).symm,fun i hi=>(Nat.ne_of_lt (h.tolds i hi).lt).symm,h.gt,h.tt,fun g hg=>⟨Nat.ne_of_lt (h.bag.lt g hg).2,(h.bv g hg).2.1,(h.bv g hg).2.2⟩,⟨h.ylo.1,by have:=h.ylo.2;omega⟩,h2.sr,h2.sd⟩
structure qC (base P N:Nat) (e:Eng) (Bv:Value) (y:Lay) (W:World):Prop where
 live:Live base P N e Bv y W
 blk:∀i,i<N->∃cs,Blk W (y.rb i) cs 3
 lr:∀i,i<N->base<=y.rb i
 rr:∀i k,i<N->k<N->i≠k->y.rb k≠y.rb i
 rd:∀i k q,i<N->k<N->q<N->e.told k q=true->y.db k q≠y.rb i
theorem qC.below (h:qC base P N e Bv y W)(hb:Below W.heap.size W W'):qC base P N e Bv y W' :=
 ⟨h.live.below hb,fun i hi=>by obtain⟨cs,hc⟩:=h.blk i hi;exact⟨cs,hc.below hb hc.lt⟩,h.lr,h.rr,h.rd⟩
theorem qC.rebox (h:qC base P N e Bv y W):qC base W.heap.size N e Bv y (W.alloc (.cells #[.slice (some ⟨y.G,0,none⟩) N y.gc,Bv] 31)) :=
 ⟨h.live.rebox,fun i hi=>by obtain⟨cs,hc⟩:=h.blk i hi;exact⟨cs,hc.alloc _⟩,h.lr,h.rr,h.rd⟩
theorem qC.congr (h:qC base P N e Bv y W)(hR:∀i j,i<N->j<N->e.R i j=e'.R i j)(ht:∀i k,i<N->k<N->e.told i k=e'.told i k)(hD:∀i k j,i<N->k<N->j<N->e.told i k=true->e.D i k j=e'.D i k j)(hb:e.bag=e'.bag):qC base P N e' Bv y W :=
 ⟨h.live.congr hR ht hD hb,h.blk,h.lr,h.rr,fun i k q hi hk hq h1=>h.rd i k q hi hk hq (by rw[ht k q hk hq];exact h1)⟩
theorem qC.setRoute (h:qC base P N e Bv y W){i j:Nat}(hi:i<N)(hj:j<N)(z:Int):
 qC base P N { e with R:=fun r c=>if r=i/\c=j then z else e.R r c } Bv y (W.setCell ⟨y.rb i,j,none⟩ (.int .i64 z)):=by
 have hl:=h.live;obtain⟨ho,hc⟩:=hl.routes i hi;obtain⟨cs,hb⟩:=h.blk i hi;have d0:j<cs.size:=by
  have:=hc j hj;rw[hb.cell j]at this;exact(Array.getElem?_eq_some_iff.1 this).1
 have f0:(W.setCell ⟨y.rb i,j,none⟩ (.int .i64 z)).heap.size=W.heap.size:=by simp
 have off:∀b,y.Off P N Bv W b->y.Off P N Bv (W.setCell ⟨y.rb i,j,none⟩ (.int .i64 z)) b:=fun b hb=>⟨hb.p,hb.g,hb.t,hb.v,by rw[f0];exact hb.lt,hb.lo⟩;refine⟨⟨hl.head.other (Ne.symm ho.p) _ _,hl.rtrs.other (Ne.symm ho.g) _ _,hl.r0,hl.r1,fun r hr=>(hl.tolds r hr).other (Ne.symm (ho.t r hr)) _ _,hl.t0,fun r hr=>⟨off _ (hl.routes r hr).1,fun c hc'=>?_⟩,fun r hr k hk ht=>⟨(hl.rows r hr k hk ht).1,off _ (hl.rows r hr k hk ht).2.1,fun c hc'=>?_⟩,ownsRow_setCell_other hl.bag ho.v _,hl.lp,hl.lg,hl.lt,hl.pg,hl.pt,hl.gt,hl.tt,hl.bv,hl.ylo,fun r hr=>(hl.sr r hr).set _ _,fun r hr k hk ht=>(hl.sd r hr k hk ht).set _ _⟩,fun r hr=>?_,h.lr,h.rr,h.rd⟩
 ·show World.cell? _ ⟨y.rb r,c,none⟩=some (.int .i64 (if r=i/\c=j then z else e.R r c));by_cases e1:r=i
  ·subst e1;by_cases e2:c=j
   ·subst e2;rw[if_pos ⟨rfl,rfl⟩,(hb.set c (.int .i64 z)).cell c,Array.getElem?_setIfInBounds_self_of_lt d0]
   ·rw[if_neg (fun hh=>e2 hh.2),(hb.set j (.int .i64 z)).cell c,Array.getElem?_setIfInBounds_ne (fun hh=>e2 hh.symm),<-hb.cell c];exact hc c hc'
  ·rw[if_neg (fun hh=>e1 hh.1),qA (h.rr i r hi hr (fun hh=>e1 hh.symm))];exact(hl.routes r hr).2 c hc'
 ·rw[qA (h.rd i r k hi hr hk ht)];exact(hl.rows r hr k hk ht).2.2 c hc'
 ·by_cases e1:r=i
  ·subst e1;exact⟨_,hb.set _ _⟩
  ·obtain⟨g0,h0⟩:=h.blk r hr;exact⟨g0,h0.other (h.rr i r hi hr (fun hh=>e1 hh.symm)) _ _⟩
end
def zJ (y:Lay) (N i:Nat):List Value:=[.slice (some ⟨y.rb i,0,none⟩) N (y.rc i),.slice (some ⟨y.Tb i,0,none⟩) N (y.Tc i)]
def xD (y:Lay) (N:Nat):Nat->List Value
 | 0=>[]
 | k+1=>xD y N k ++ zJ y N k
theorem nL (y:Lay)(N:Nat):∀k,(xD y N k).length=k*2
 | 0=>rfl
 | k+1=>by show (xD y N k ++ zJ y N k).length=_;rw[List.length_append,nL y N k];simp[zJ];omega
theorem VH (y:Lay)(N:Nat):∀k i,i<k->(xD y N k)[i*2]? = some (.slice (some ⟨y.rb i,0,none⟩) N (y.rc i))/\(xD y N k)[i*2+1]? = some (.slice (some ⟨y.Tb i,0,none⟩) N (y.Tc i))
 | 0,i,h=>absurd h nZ
 | k+1,i,h=>by
  show (xD y N k ++ zJ y N k)[i*2]? = _/\(xD y N k ++ zJ y N k)[i*2+1]? = _;have hl:=nL y N k;by_cases e:i=k
  ·subst e;rw[List.getElem?_append_right (by omega),List.getElem?_append_right (by omega),hl];refine⟨?_,?_⟩
   ·rw[Nat.sub_self];rfl
   ·rw[show i*2+1-i*2=1 by omega];rfl
  ·rw[List.getElem?_append_left (by omega),List.getElem?_append_left (by omega)];exact VH y N k i (by omega)
theorem wI {y y':Lay}{N:Nat}:∀ {k:Nat},(∀i,i<k->y.rb i=y'.rb i/\y.rc i=y'.rc i/\y.Tb i=y'.Tb i/\y.Tc i=y'.Tc i)->xD y N k=xD y' N k
 | 0,_=>rfl
 | k+1,h=>by
  show xD y N k ++ zJ y N k=xD y' N k ++ zJ y' N k;obtain⟨h1,h2,h3,h4⟩:=h k (by omega);rw[wI (k:=k) (fun i hi=>h i (by omega))];simp only[zJ,h1,h2,h3,h4]
structure rE (base hi N:Nat) (e:Eng) (y:Lay) (V:Value) (k:Nat) (W:World):Prop where
 rtrs:W.ownsRow base 57 2 V k (xD y N k)
 tolds:∀i,i<k->Blk W (y.Tb i) (y.vt i) 32/\base<=y.Tb i/\y.Tb i<hi
 t0:∀i,i<k->∀q,q<N->(y.vt i)[q]? = some (.slice (y.ta i q) (if e.told i q=true then N else 0) (y.tc i q))
 routes:∀i,i<k->(∃cs,Blk W (y.rb i) cs 3)/\base<=y.rb i/\y.rb i<hi/\∀j,j<N->W.cell? ⟨y.rb i,j,none⟩=some (.int .i64 (e.R i j))
 rows:∀i,i<k->∀q,q<N->e.told i q=true->y.ta i q=some ⟨y.db i q,y.dn i q,none⟩/\(∃cs,Blk W (y.db i q) cs 3)/\(y.db i q<hi/\base<=y.db i q)/\∀j,j<N->W.cell? ⟨y.db i q,y.dn i q+j,none⟩=some (.int .i64 (e.D i q j))
 tt:∀i q,i<k->q<k->i≠q->y.Tb i≠y.Tb q
 rr:∀i q,i<k->q<k->i≠q->y.rb q≠y.rb i
 rd:∀i p q,i<k->p<k->q<N->e.told p q=true->y.db p q≠y.rb i
section
variable {base hi N:Nat} {e:Eng} {y:Lay} {V:Value} {k:Nat} {W W':World}
theorem rE.nil (base hi N:Nat)(e:Eng)(y:Lay)(W:World):rE base hi N e y (.slice none 0 0) 0 W :=
 ⟨World.ownsRow_nil W base _ 2,fun _ h=>absurd h nZ,fun _ h=>absurd h nZ,fun _ h=>absurd h nZ,fun _ h=>absurd h nZ,fun _ _ h=>absurd h nZ,fun _ _ h=>absurd h nZ,fun _ _ _ h=>absurd h nZ⟩
theorem KC {row:Option Nat}{b:Nat}{cs:Array Value}{t:TypeId}(hb:Blk W b cs t)(hg:W.grownBy W' row)(hne:some b≠row)(j:Nat):W'.cell? ⟨b,j,none⟩=W.cell? ⟨b,j,none⟩:=by
 rw[(hb.kept hg hne).cell j,hb.cell j]
theorem rE.kept (h:rE base hi N e y V k W){row:Option Nat}(hg:W.grownBy W' row)(hne:∀b cs t,b<hi->Blk W b cs t->t=3\/t=32->some b≠row){V':Value}(hr:W'.ownsRow base 57 2 V' k (xD y N k)):rE base hi N e y V' k W' :=
 ⟨hr,fun i hi=>⟨(h.tolds i hi).1.kept hg (hne _ _ _ (h.tolds i hi).2.2 (h.tolds i hi).1 (Or.inr rfl)),(h.tolds i hi).2⟩,h.t0,fun i hi=>by
  obtain⟨⟨cs,h1⟩,h2,h3,h4⟩:=h.routes i hi;exact⟨⟨cs,h1.kept hg (hne _ _ _ h3 h1 (Or.inl rfl))⟩,h2,h3,fun j hj=>by rw[KC h1 hg (hne _ _ _ h3 h1 (Or.inl rfl))];exact h4 j hj⟩,fun i hi q hq ht=>by
  obtain⟨h0,⟨cs,h1⟩,h3,h4⟩:=h.rows i hi q hq ht;exact⟨h0,⟨cs,h1.kept hg (hne _ _ _ h3.1 h1 (Or.inl rfl))⟩,h3,fun j hj=>by rw[KC h1 hg (hne _ _ _ h3.1 h1 (Or.inl rfl))];exact h4 j hj⟩,h.tt,h.rr,h.rd⟩
theorem rE.below (h:rE base hi N e y V k W)(hb:Below W.heap.size W W'):rE base hi N e y V k W' :=
 h.kept (below_grown hb) (fun _ _ _ _ _ _=>by simp) (ZA h.rtrs hb)
theorem rE.mono (h:rE base hi N e y V k W){hi':Nat}(hh:hi<=hi'):rE base hi' N e y V k W :=
 ⟨h.rtrs,fun i hi=>⟨(h.tolds i hi).1,(h.tolds i hi).2.1,Nat.lt_of_lt_of_le (h.tolds i hi).2.2 hh⟩,h.t0,fun i hi=>⟨(h.routes i hi).1,(h.routes i hi).2.1,Nat.lt_of_lt_of_le (h.routes i hi).2.2.1 hh,(h.routes i hi).2.2.2⟩,fun i hi q hq ht=>⟨(h.rows i hi q hq ht).1,(h.rows i hi q hq ht).2.1,⟨Nat.lt_of_lt_of_le (h.rows i hi q hq ht).2.2.1.1 hh,(h.rows i hi q hq ht).2.2.1.2⟩,(h.rows i hi q hq ht).2.2.2⟩,h.tt,h.rr,h.rd⟩
theorem rE.set (h:rE base hi N e y V k W){p j:Nat}{cs:Array Value}{t:TypeId}(hp:Blk W p cs t)(h1:t≠3)(h2:t≠32)(h3:V.ownBlock≠some p)(v:Value):rE base hi N e y V k (W.setCell ⟨p,j,none⟩ v) :=
 ⟨ownsRow_setCell_other h.rtrs h3 _,fun i hi=>⟨(h.tolds i hi).1.other (eB (h.tolds i hi).1 hp (Ne.symm h2)) _ _,(h.tolds i hi).2⟩,h.t0,fun i hi=>by
  obtain⟨⟨cs',q1⟩,q2,q3,q4⟩:=h.routes i hi;have hne:=eB q1 hp (Ne.symm h1);exact⟨⟨cs',q1.other hne _ _⟩,q2,q3,fun j hj=>by rw[qA hne];exact q4 j hj⟩,fun i hi q hq ht=>by
  obtain⟨h0,⟨cs',q1⟩,q3,q4⟩:=h.rows i hi q hq ht;have hne:=eB q1 hp (Ne.symm h1);exact⟨h0,⟨cs',q1.other hne _ _⟩,q3,fun j hj=>by rw[qA hne];exact q4 j hj⟩,h.tt,h.rr,h.rd⟩
def jL (N:Nat) (told:Nat->Bool) (ta:Nat->Option Addr) (tc:Nat->Nat) (q:Nat):List Value:=(List.range q).map fun p=>Value.slice (ta p) (if told p=true then N else 0) (tc p)
theorem oQ {N:Nat}{told:Nat->Bool}{ta:Nat->Option Addr}{tc:Nat->Nat}{q p:Nat}(h:p<q):(jL N told ta tc q)[p]? = some (.slice (ta p) (if told p=true then N else 0) (tc p)):=by simp[jL,h]
theorem xO (N:Nat)(told:Nat->Bool)(ta:Nat->Option Addr)(tc:Nat->Nat)(q:Nat)(a:Option Addr)(c:Nat):jL N told (fun p=>if p=q then a else ta p) (fun p=>if p=q then c else tc p) (q+1)=jL N told ta tc q ++ [.slice a (if told q=true then N else 0) c]:=by
 unfold jL;rw[List.range_succ,List.map_append];congr 1
 ·apply List.map_congr_left;intro p hp;have:p≠q:=by have:=List.mem_range.1 hp;omega
  simp[this]
 ·simp
structure DD (H N:Nat) (told:Nat->Bool) (D:Nat->Nat->Int) (V:Value) (q:Nat) (W:World):Prop where
 ex:∃ (ta:Nat->Option Addr) (tc db:Nat->Nat),W.ownsRow H 32 1 V q (jL N told ta tc q)/\∀p,p<q->told p=true->ta p=some ⟨db p,0,none⟩/\(∃cs,Blk W (db p) cs 3)/\H<=db p/\∀j,j<N->W.cell? ⟨db p,j,none⟩=some (.int .i64 (D p j))
theorem DD.nil (H N:Nat)(told:Nat->Bool)(D:Nat->Nat->Int)(W:World):DD H N told D (.slice none 0 0) 0 W :=
 ⟨fun _=>none,fun _=>0,fun _=>0,World.ownsRow_nil W H _ 1,fun _ h=>absurd h nZ⟩
theorem DD.below {H N:Nat}{told:Nat->Bool}{D:Nat->Nat->Int}{V:Value}{q:Nat}(h:DD H N told D V q W)(hb:Below W.heap.size W W'):DD H N told D V q W':=by
 obtain⟨ta,tc,db,h1,h2⟩:=h.ex;refine⟨ta,tc,db,ZA h1 hb,fun p hp ht=>?_⟩;obtain⟨q1,⟨cs,q2⟩,q3,q4⟩:=h2 p hp ht;exact⟨q1,⟨cs,q2.below hb q2.lt⟩,q3,fun j hj=>by rw[hb.cell (p:=⟨db p,j,none⟩) q2.lt];exact q4 j hj⟩
theorem DD.set {H N:Nat}{told:Nat->Bool}{D:Nat->Nat->Int}{V:Value}{q:Nat}(h:DD H N told D V q W){p j:Nat}{cs:Array Value}{t:TypeId}(hp:Blk W p cs t)(h1:t≠3)(h2:t≠32)(v:Value):DD H N told D V q (W.setCell ⟨p,j,none⟩ v):=by
 obtain⟨ta,tc,db,k1,k2⟩:=h.ex;refine⟨ta,tc,db,ownsRow_setCell_other k1 (fun hv=>own_ne k1 hp (Ne.symm h2) hv rfl) _,fun p' hp' ht=>?_⟩;obtain⟨q1,⟨f0,q2⟩,q3,q4⟩:=k2 p' hp' ht;have d0:=eB q2 hp (Ne.symm h1);exact⟨q1,⟨f0,q2.other d0 _ _⟩,q3,fun j hj=>by rw[qA d0];exact q4 j hj⟩
theorem DD.push {H N:Nat}{told:Nat->Bool}{D:Nat->Nat->Int}{V:Value}{q:Nat}(h:DD H N told D V q W)(hq:q<=100)(hH:H<=W.heap.size){a:Option Addr}{l c b:Nat}(hl:l=if told q=true then N else 0)(hi:Ints a l b 0 (D q) W)(hb:0<l->(∃cs,Blk W b cs 3)/\H<=b)(hN:0<N){s:Nat}(hs:Blk W s #[.slice a l c] 32)(ty:TypeId):
 ∃g cap W',(Builtin.append_ #[22,22] ty #[V,.slice (some ⟨s,0,none⟩) 1 1]).run Tryz.prog W=.ok (.slice (some ⟨g,0,none⟩) (q+1) cap) W'/\DD H N told D (.slice (some ⟨g,0,none⟩) (q+1) cap) (q+1) W'/\W.grownBy W' V.ownBlock/\(∀b,V.ownBlock=some b->H<=b):=by
 obtain⟨ta,tc,db,k1,k2⟩:=h.ex;obtain⟨i2,f0,g0,h0,i0⟩:=info_parts Tryz.infoInts;obtain⟨g,cap,w',hr,h2,h3,_,_⟩:=run_append_lies (P:=Tryz.prog) W 22 ty H 32 i2 _ 1 24 Tryz.underlying22 f0 g0 h0 i0 rfl (by decide) V q _ k1 ⟨s,0,none⟩ 1 1 [.slice a l c] rfl (World.news_of_block hs) (by simp[Value.oneCell']) (by decide) (by unfold maxLen;omega) (by omega) hH _ rfl;refine⟨g,cap,w',hr,⟨fun p=>if p=q then a else ta p,fun p=>if p=q then c else tc p,fun p=>if p=q then b else db p,?_,fun p hp ht=>?_⟩,h3,fun b hb=>(k1.lt b hb).1⟩
 ·rw[xO,<-hl];exact h2
 ·have keep:∀b cs,Blk W b cs 3->some b≠V.ownBlock:=fun b cs hb' hv=>own_ne k1 hb' (by decide) hv.symm rfl;by_cases e:p=q
  ·subst e;have k0:l=N:=by rw[hl,if_pos ht]
   simp only[if_true];obtain⟨⟨cs,d0⟩,j0⟩:=hb (by omega);refine⟨hi.addr (by omega),⟨cs,d0.kept h3 (keep _ _ d0)⟩,j0,fun j hj=>?_⟩;rw[KC d0 h3 (keep _ _ d0)];have:=hi.cell j (by omega);rwa [Nat.zero_add]at this
  ·simp only[if_neg e];obtain⟨q1,⟨cs,q2⟩,q3,q4⟩:=k2 p (by omega) ht;exact⟨q1,⟨cs,q2.kept h3 (keep _ _ q2)⟩,q3,fun j hj=>by rw[KC q2 h3 (keep _ _ q2)];exact q4 j hj⟩
theorem rE.push {H:Nat}(h:rE base H N e y V k W)(hb:base<=H){b c:Nat}(hbk:∃cs,Blk W b cs 3)(hbH:H<=b)(hbc:∀j,j<N->W.cell? ⟨b,j,none⟩=some (.int .i64 (e.R k j)))
 {H1:Nat} (hb1:b<H1) {g cap:Nat} (ht:DD H1 N (e.told k) (e.D k) (.slice (some ⟨g,0,none⟩) N cap) N W)
 {V':Value} (hown:W'.ownsRow base 57 2 V' (k+1) (xD y N k ++ [.slice (some ⟨b,0,none⟩) N c,.slice (some ⟨g,0,none⟩) N cap])) (hg:W.grownBy W' V.ownBlock) :
 ∃y',rE base W'.heap.size N e y' V' (k+1) W':=by
 obtain⟨ta,tc,db,k1,k2⟩:=ht.ex;obtain⟨v0,hbk⟩:=hbk;obtain⟨k0,m0,q0⟩:∃cs,Blk W g cs 32/\∀q,q<N->cs[q]? = some (.slice (ta q) (if e.told k q=true then N else 0) (tc q)):=by
  obtain⟨_,h2⟩:=id k1;rcases h2 with ⟨e0,_⟩ | ⟨g',cap',cur,e1,_,hgb,_⟩
  ·cases e0
  ·obtain⟨rfl,rfl⟩:g=g'/\cap=cap':=by simpa using e1
   refine⟨cur,hgb,fun q hq=>?_⟩;have:=k1.cellAt q (by omega);rw[(show Blk W g cur 32 from hgb).cell q,oQ hq]at this;exact this
 have s0:H1<=g:=(k1.lt g rfl).1;have ne:∀q cs t,Blk W q cs t->t=3\/t=32->some q≠V.ownBlock:=fun q cs t hq ht' hv=>own_ne h.rtrs hq (by rcases ht' with rfl | rfl <;> decide) hv.symm rfl;have u0:=hg.size;obtain⟨y',d0⟩:∃y':Lay,y'={ y with rb:=fun r=>if r=k then b else y.rb r,rc:=fun r=>if r=k then c else y.rc r,Tb:=fun r=>if r=k then g else y.Tb r,Tc:=fun r=>if r=k then cap else y.Tc r,vt:=fun r=>if r=k then k0 else y.vt r,ta:=fun r q=>if r=k then ta q else y.ta r q,tc:=fun r q=>if r=k then tc q else y.tc r q,db:=fun r q=>if r=k then db q else y.db r q,dn:=fun r q=>if r=k then 0 else y.dn r q }:=⟨_,rfl⟩;have f0:∀r,y'.rb r=if r=k then b else y.rb r:=fun r=>by rw[d0]
 have g0:∀r,y'.Tb r=if r=k then g else y.Tb r:=fun r=>by rw[d0]
 have h0:∀r,y'.vt r=if r=k then k0 else y.vt r:=fun r=>by rw[d0]
 have i0:∀r q,y'.ta r q=if r=k then ta q else y.ta r q:=fun r q=>by rw[d0]
 have o0:∀r q,y'.tc r q=if r=k then tc q else y.tc r q:=fun r q=>by rw[d0]
 have j0:∀r q,y'.db r q=if r=k then db q else y.db r q:=fun r q=>by rw[d0]
 have p0:∀r q,y'.dn r q=if r=k then 0 else y.dn r q:=fun r q=>by rw[d0]
 refine⟨y',?_,fun i hi=>?_,fun i hi q hq=>?_,fun i hi=>?_,fun i hi q hq hto=>?_,fun i q hi hq hne=>?_,fun i q hi hq hne=>?_,fun i p q hi hp hq hto=>?_⟩
 ·show W'.ownsRow base 57 2 V' (k+1) (xD y' N k ++ zJ y' N k);have e1:xD y' N k=xD y N k:=wI (fun i hi=>by rw[d0];simp[Nat.ne_of_lt hi]);have e2:zJ y' N k=[.slice (some ⟨b,0,none⟩) N c,.slice (some ⟨g,0,none⟩) N cap]:=by rw[d0];simp[zJ]
  rw[e1,e2];exact hown
 ·rw[g0,h0];by_cases e1:i=k
  ·rw[if_pos e1,if_pos e1];have:=m0.kept hg (ne _ _ _ m0 (Or.inr rfl));exact⟨this,by omega,this.lt⟩
  ·rw[if_neg e1,if_neg e1];obtain⟨q1,q2,q3⟩:=h.tolds i (by omega);have:=q1.kept hg (ne _ _ _ q1 (Or.inr rfl));exact⟨this,q2,this.lt⟩
 ·rw[h0,i0,o0];by_cases e1:i=k
  ·rw[if_pos e1,if_pos e1,if_pos e1,e1];exact q0 q hq
  ·rw[if_neg e1,if_neg e1,if_neg e1];exact h.t0 i (by omega) q hq
 ·rw[f0];by_cases e1:i=k
  ·rw[if_pos e1,e1];have:=hbk.kept hg (ne _ _ _ hbk (Or.inl rfl));exact⟨⟨_,this⟩,by omega,this.lt,fun j hj=>by rw[KC hbk hg (ne _ _ _ hbk (Or.inl rfl))];exact hbc j hj⟩
  ·rw[if_neg e1];obtain⟨⟨cs,q1⟩,q2,q3,q4⟩:=h.routes i (by omega);have:=q1.kept hg (ne _ _ _ q1 (Or.inl rfl));exact⟨⟨_,this⟩,q2,this.lt,fun j hj=>by rw[KC q1 hg (ne _ _ _ q1 (Or.inl rfl))];exact q4 j hj⟩
 ·rw[i0,j0,p0];by_cases e1:i=k
  ·rw[e1]at hto;rw[if_pos e1,if_pos e1,if_pos e1,e1];obtain⟨q1,⟨cs,q2⟩,q3,q4⟩:=k2 q hq hto;have:=q2.kept hg (ne _ _ _ q2 (Or.inl rfl));exact⟨q1,⟨_,this⟩,⟨this.lt,by omega⟩,fun j hj=>by rw[Nat.zero_add,KC q2 hg (ne _ _ _ q2 (Or.inl rfl))];exact q4 j hj⟩
  ·simp only[if_neg e1];obtain⟨q1,⟨cs,q2⟩,q3,q4⟩:=h.rows i (by omega) q hq hto;have:=q2.kept hg (ne _ _ _ q2 (Or.inl rfl));exact⟨q1,⟨_,this⟩,⟨this.lt,q3.2⟩,fun j hj=>by rw[KC q2 hg (ne _ _ _ q2 (Or.inl rfl))];exact q4 j hj⟩
 ·rw[g0,g0];by_cases e1:i=k
  ·rw[if_pos e1,if_neg (by omega)];have:=(h.tolds q (by omega)).2.2;omega
  ·rw[if_neg e1];by_cases e2:q=k
   ·rw[if_pos e2];have:=(h.tolds i (by omega)).2.2;omega
   ·rw[if_neg e2];exact h.tt i q (by omega) (by omega) hne
 ·rw[f0,f0];by_cases e1:i=k
  ·rw[if_pos e1,if_neg (by omega)];have:=(h.routes q (by omega)).2.2.1;omega
  ·rw[if_neg e1];by_cases e2:q=k
   ·rw[if_pos e2];have:=(h.routes i (by omega)).2.2.1;omega
   ·rw[if_neg e2];exact h.rr i q (by omega) (by omega) hne
 ·rw[f0,j0];by_cases e2:p=k
  ·rw[e2]at hto;rw[if_pos e2];have q3:=(k2 q hq hto).2.2.1;by_cases e1:i=k
   ·rw[if_pos e1];omega
   ·rw[if_neg e1];have:=(h.routes i (by omega)).2.2.1;omega
  ·rw[if_neg e2];have q3:=(h.rows p (by omega) q hq hto).2.2.1.1;by_cases e1:i=k
   ·rw[if_pos e1];omega
   ·rw[if_neg e1];exact h.rd i p q (by omega) (by omega) hq hto
theorem rE.live {P:Nat}{Bv:Value}(h:rE base hi N e y V N W)(hN:0<N)(hP:Blk W P #[V,Bv] 31)(hbP:base<=P)(hbag:W.ownsRow base 59 3 Bv e.bag.length (uA e.bag)):
 ∃y',qC base P N e Bv y' W/\V=.slice (some ⟨y'.G,0,none⟩) N y'.gc:=by
 have f0:=h.rtrs;obtain⟨g,cap,cur,rfl,d0,i0⟩:∃g cap cur,V=.slice (some ⟨g,0,none⟩) N cap/\Blk W g cur 57/\base<=g:=by
  obtain⟨_,h2⟩:=id f0;rcases h2 with ⟨_,e0⟩ | ⟨g',cap',cur,e1,hb',i0,_⟩
  ·omega
  ·exact⟨g',cap',cur,e1,i0,hb'⟩
 have g0:∀j,j<N*2->cur[j]? = (xD y N N)[j]?:=fun j hj=>by rw[<-d0.cell j];exact f0.cellAt j hj
 refine⟨{ y with G:=g,gc:=cap,vs:=cur,lo:=base },⟨⟨hP,d0,fun i hi=>?_,fun i hi=>?_,fun i hi=>(h.tolds i hi).1,h.t0,fun i hi=>?_,fun i hi k hk ht=>?_,hbag,hbP,i0,fun i hi=>(h.tolds i hi).2.1,eB hP d0 (by decide),fun i hi=>eB hP (h.tolds i hi).1 (by decide),fun i hi=>eB d0 (h.tolds i hi).1 (by decide),h.tt,fun q hq=>?_,⟨lR,hbP⟩,fun i hi=>(h.routes i hi).1,fun i hi q hq ht=>(h.rows i hi q hq ht).2.1⟩,fun i hi=>(h.routes i hi).1,fun i hi=>(h.routes i hi).2.1,h.rr,h.rd⟩,rfl⟩
 ·show cur[i*2]? = _;rw[g0 _ (by omega)];exact(VH y N N i hi).1
 ·show cur[i*2+1]? = _;rw[g0 _ (by omega)];exact(VH y N N i hi).2
 ·obtain⟨⟨cs,q1⟩,q2,q3,q4⟩:=h.routes i hi;exact⟨⟨eB q1 hP (by decide),eB q1 d0 (by decide),fun k hk=>eB q1 (h.tolds k hk).1 (by decide),fun hv=>own_ne hbag q1 (by decide) hv rfl,q1.lt,q2⟩,q4⟩
 ·obtain⟨h0,⟨cs,q1⟩,q3,q4⟩:=h.rows i hi k hk ht;exact⟨h0,⟨eB q1 hP (by decide),eB q1 d0 (by decide),fun k hk=>eB q1 (h.tolds k hk).1 (by decide),fun hv=>own_ne hbag q1 (by decide) hv rfl,q1.lt,q3.2⟩,q4⟩
 ·exact⟨own_ne hbag hP (by decide) hq,own_ne hbag d0 (by decide) hq,fun i hi=>own_ne hbag (h.tolds i hi).1 (by decide) hq⟩
end
section
variable {base P N:Nat} {e:Eng} {Bv:Value} {y:Lay} {W W':World}
theorem Live.mono (h:Live base P N e Bv y W){lo:Nat}(hl:lo<=base):Live lo P N e Bv y W :=
 ⟨h.head,h.rtrs,h.r0,h.r1,h.tolds,h.t0,h.routes,h.rows,Go.Joins.ownsRow_le h.bag hl,Nat.le_trans hl h.lp,Nat.le_trans hl h.lg,fun i hi=>Nat.le_trans hl (h.lt i hi),h.pg,h.pt,h.gt,h.tt,h.bv,⟨Nat.le_trans hl h.ylo.1,h.ylo.2⟩,h.sr,h.sd⟩
theorem qC.mono (h:qC base P N e Bv y W){lo:Nat}(hl:lo<=base):qC lo P N e Bv y W :=
 ⟨h.live.mono hl,h.blk,fun i hi=>Nat.le_trans hl (h.lr i hi),h.rr,h.rd⟩
theorem qC.setBag (h:qC base P N e Bv y W){Bv':Value}{l:List xB}(hb:Below W.heap.size W W')(hown:W'.ownsRow W.heap.size 59 3 Bv' l.length (uA l)):
 qC base P N { e with bag:=l } Bv' y (W'.setCell ⟨P,1,none⟩ Bv'):=by
 have d0:base<=W.heap.size:=Nat.le_of_lt (Nat.lt_of_le_of_lt h.live.lp h.live.head.lt);refine⟨h.live.setBag ⟨hb.os,hb.tape,hb.output,hb.size,fun i hi _=>hb.block i hi⟩ (Go.Joins.ownsRow_le hown d0) (fun g hg=>Or.inr (hown.lt g hg).1),fun i hi=>?_,h.lr,h.rr,h.rd⟩;obtain⟨cs,hc⟩:=h.blk i hi;exact⟨cs,(hc.below hb hc.lt).other (h.live.routes i hi).1.p _ _⟩
end
theorem qC.setRes {base P N:Nat}{e:Eng}{Bv:Value}{y:Lay}{W:World}(h:qC base P N e Bv y W)(hN0:0<N){q:Nat}{t:TypeId}(hq:q<base)(hb:Blk W q #[.slice none 0 0,.slice none 0 0] t)(u v:Value):
 qC base P N e Bv y ((W.setCell ⟨q,0,none⟩ u).setCell ⟨q,1,none⟩ v):=by
 refine⟨h.live.setRes hN0 hq hb u v,fun i hi=>?_,h.lr,h.rr,h.rd⟩;obtain⟨cs,hc⟩:=h.blk i hi;have d0:y.rb i≠q:=by have:=h.lr i hi;omega
 exact⟨cs,(hc.other d0 _ _).other d0 _ _⟩
theorem uM (W:World)(g:Nat)(a:Option Addr)(l q b o:Nat)(f:Nat->Int)(h:Ints a l b o f W)(hl:l*8<=140737488355328)(ty:TypeId):
 ∃ (a':Option Addr) (c b':Nat) (W2:World),(Builtin.append_ #[32,32] ty #[.slice (some ⟨g,0,none⟩) 0 0,.slice a l q]).run Tryz.prog W=.ok (.slice a' l c) W2/\Ints a' l b' 0 f W2/\(0<l->yB W2 b'/\W.heap.size<=b')/\Below W.heap.size W W2:=by
 by_cases hp:0<l
 ·obtain rfl:=h.addr hp;obtain⟨i1,f0,g0,d0,i0⟩:=info_parts Tryz.infoInt;have hr:=run_append_grow (P:=Tryz.prog) W 32 ty 3 i1 _ Tryz.underlying32 f0 g0 ⟨g,0,none⟩ 0 0 [] (by rw[d0];rfl) (fun j v hv=>by simp at hv) ⟨b,o,none⟩ l q (JA f l) (by rw[zC,d0,Nat.mul_one]) (fun j u hu=>by
   have hj:j<l:=by
    rcases Nat.lt_or_ge j l with h' | h'
    ·exact h'
    ·rw[List.getElem?_eq_none (by rw[zC];exact h')]at hu;cases hu
   rw[NB hj]at hu;cases hu;rw[Go.WideShapes.add_plain];exact h.cell j hj) (by omega) (by omega) (growslice_fits (by omega) (by rw[i0];omega))
  rw[Nat.zero_add]at hr;refine⟨_,_,W.heap.size,_,hr,⟨fun _=>rfl,fun i hi=>?_,h.len⟩,fun _=>⟨⟨_,Blk.new W.drew _ _⟩,lR⟩,(Below.refl W.heap.size W).drew.alloc lR _⟩;refine((Blk.new W.drew _ _).cell (0+i)).trans ?_;rw[Nat.zero_add,Array.getElem?_append_left (by simp[zC];omega)];simp[NB hi]
 ·obtain rfl:l=0:=by omega
  exact⟨_,_,0,_,wG W ty g a q,⟨fun h0=>absurd h0 (Nat.lt_irrefl _),fun i hi=>absurd hi nZ,h.len⟩,fun h0=>absurd h0 (Nat.lt_irrefl _),Below.refl _ _⟩
def cpL (x:Mat) (a:Nat->Option Addr) (c:Nat->Nat) (k:Nat):List Value:=(List.range k).map fun r=>Value.slice (a r) (x.t.L r) (c r)
theorem nU {x:Mat}{a:Nat->Option Addr}{c:Nat->Nat}{k r:Nat}(h:r<k):(cpL x a c k)[r]? = some (.slice (a r) (x.t.L r) (c r)):=by simp[cpL,h]
theorem jT (x:Mat)(a:Nat->Option Addr)(c:Nat->Nat)(k:Nat)(A:Option Addr)(C:Nat):cpL x (fun r=>if r=k then A else a r) (fun r=>if r=k then C else c r) (k+1)=cpL x a c k ++ [.slice A (x.t.L k) C]:=by
 unfold cpL;rw[List.range_succ,List.map_append];congr 1
 ·apply List.map_congr_left;intro p hp;have:p≠k:=by have:=List.mem_range.1 hp;omega
  simp[this]
 ·simp
structure CpI (w:World) (x:Mat) (k:Nat) (V:Value) (W:World):Prop where
 below:Below w.heap.size w W
 ex:∃ (a:Nat->Option Addr) (c b:Nat->Nat),W.ownsRow w.heap.size 32 1 V k (cpL x a c k)/\∀r,r<k->Ints (a r) (x.t.L r) (b r) 0 (x.t.Z r) W/\(0<x.t.L r->w.heap.size<=b r/\yB W (b r))
theorem CpI.start (w:World)(x:Mat):CpI w x 0 (.slice none 0 0) w :=
 ⟨Below.refl _ _,fun _=>none,fun _=>0,fun _=>0,World.ownsRow_nil w _ _ 1,fun _ h=>absurd h nZ⟩
theorem CpI.keep {w:World}{x:Mat}{k:Nat}{V:Value}{W W':World}(h:CpI w x k V W)(hb:Below W.heap.size W W'):CpI w x k V W':=by
 obtain⟨a,c,b,h1,h2⟩:=h.ex;refine⟨h.below.trans (hb.mono h.below.size),a,c,b,ZA h1 hb,fun r hr=>?_⟩;obtain⟨k1,k2⟩:=h2 r hr;exact⟨k1.below hb (fun h0=>(k2 h0).2.lt),fun h0=>⟨(k2 h0).1,(k2 h0).2.grown hb⟩⟩
theorem CpI.form {w:World}{x:Mat}{k:Nat}{V:Value}{W:World}(h:CpI w x k V W):∃a c,V=.slice a k c:=by
 obtain⟨_,_,_,h1,_⟩:=h.ex;exact QA h1
theorem CpI.push {w:World}{x:Mat}{k:Nat}{V:Value}{W:World}(h:CpI w x k V W)(hk:(k+1)*24<=140737488355328){A:Option Addr}{C b0:Nat}(hi:Ints A (x.t.L k) b0 0 (x.t.Z k) W)(hb0:0<x.t.L k->w.heap.size<=b0/\yB W b0){s:Nat}(hs:Blk W s #[.slice A (x.t.L k) C] 32)(ty:TypeId):
 ∃g cap W',(Builtin.append_ #[22,22] ty #[V,.slice (some ⟨s,0,none⟩) 1 1]).run Tryz.prog W=.ok (.slice (some ⟨g,0,none⟩) (k+1) cap) W'/\CpI w x (k+1) (.slice (some ⟨g,0,none⟩) (k+1) cap) W':=by
 obtain⟨a,c,b,k1,k2⟩:=h.ex;obtain⟨i2,g0,i0,j0,k0⟩:=info_parts Tryz.infoInts;obtain⟨g,cap,w',hr,h2,h3,_,_⟩:=run_append_lies (P:=Tryz.prog) W 22 ty w.heap.size 32 i2 _ 1 24 Tryz.underlying22 g0 i0 j0 k0 rfl (by decide) V k _ k1 ⟨s,0,none⟩ 1 1 [.slice A (x.t.L k) C] rfl (World.news_of_block hs) (by simp[Value.oneCell']) (by decide) (by unfold maxLen;omega) (by omega) h.below.size _ rfl;have keep:∀b,yB W b->V.ownBlock≠some b:=fun b ⟨cs,f0⟩ hv=>own_ne k1 f0 (by decide) hv rfl;have d0:∀ (A:Option Addr) (l b:Nat) (f:Nat->Int),Ints A l b 0 f W->(0<l->yB W b)->Ints A l b 0 f w':=fun A l b f q1 q2=>⟨q1.addr,fun i hi=>by
  obtain⟨cs,f0⟩:=q2 (by omega);rw[KC f0 h3 (fun e=>keep b ⟨cs,f0⟩ e.symm)];exact q1.cell i hi,q1.len⟩
 refine⟨g,cap,w',hr,h.below.trans (nA h3 (fun q hq=>(k1.lt q hq).1) h.below.size),fun r=>if r=k then A else a r,fun r=>if r=k then C else c r,fun r=>if r=k then b0 else b r,?_,fun r hr'=>?_⟩
 ·rw[jT];exact h2
 ·by_cases e:r=k
  ·subst e;simp only[if_true];exact⟨d0 _ _ _ _ hi (fun h0=>(hb0 h0).2),fun h0=>⟨(hb0 h0).1,(hb0 h0).2.kept h3 (keep _ (hb0 h0).2)⟩⟩
  ·simp only[if_neg e];obtain⟨q1,q2⟩:=k2 r (by omega);exact⟨d0 _ _ _ _ q1 (fun h0=>(q2 h0).2),fun h0=>⟨(q2 h0).1,(q2 h0).2.kept h3 (keep _ (q2 h0).2)⟩⟩
theorem CpI.mat {w:World}{x:Mat}{V:Value}{W:World}(h:CpI w x x.t.len V W)(hl:x.t.len<=maxLen)(hL:∀r,r<x.t.len->x.t.L r<=maxLen):∃m:Mat,V=m.val/\m.t=x.t/\m.In W.heap.size W:=by
 obtain⟨a,c,b,k1,k2⟩:=h.ex;rcases Go.Joins.ownsRow_forms k1 with ⟨rfl,h0⟩ | ⟨gb,cap,rfl⟩
 ·refine⟨⟨none,0,0,0,a,c,b,fun _=>0,x.t⟩,?_,rfl,⟨?_,?_,?_,?_,?_,hl,hL⟩⟩
  ·show _=Value.slice none x.t.len 0;rw[h0]
  ·intro h1;have d0:0<x.t.len:=h1;omega
  ·intro h1;have d0:0<x.t.len:=h1;omega
  ·intro r h1;have d0:r<x.t.len:=h1;omega
  ·intro r h1;have d0:r<x.t.len:=h1;omega
  ·intro r h1;have d0:r<x.t.len:=h1;omega
 ·refine⟨⟨some ⟨gb,0,none⟩,gb,0,cap,a,c,b,fun _=>0,x.t⟩,rfl,rfl,⟨fun _=>rfl,fun _=>(k1.lt gb rfl).2,?_,?_,?_,hl,hL⟩⟩
  ·intro r hr;have f0:r<x.t.len:=hr;show W.cell? ⟨gb,0+r,none⟩=_;rw[Nat.zero_add,k1.cellAt r (by omega),nU f0]
  ·intro r hr h0;exact⟨(k2 r hr).1.addr h0,((k2 r hr).2 h0).2.lt⟩
  ·intro r hr q hq;exact(k2 r hr).1.cell q hq
def Mat.Small (m:Mat):Prop:=m.t.len*24<=140737488355328/\∀r,r<m.t.len->m.t.L r*8<=140737488355328
theorem YD (x:Mat)(w:World)(h:x.In w.heap.size w)(hsm:x.Small):
 Calls Tryz.prog 7 #[x.val] w fun r w'=>(∃m:Mat,r=.returned m.val/\m.t=x.t/\m.In w'.heap.size w')/\Below w.heap.size w w':=by
 obtain⟨hn,hw⟩:=hsm;obtain⟨N,hN⟩:∃N,N=x.t.len:=⟨_,rfl⟩;have H:=hide h;have HW:=hide hw;have HN:=hide hN;have x0:Hid (CpI w x 0 (.slice none 0 0) w):=hide (CpI.start w x);rw[<-hN]at hn;simp only[Mat.val,<-hN];obtain⟨ga,v0⟩:∃ga,ga=x.ga:=⟨_,rfl⟩;have F0:=hide v0;rw[<-v0];clear h hw hN v0;go_enter Tryz.func7,Tryz.ntmps7;go_wp2_with fail
 go_loopw [3,4] (fun s q wr=>∃k:Nat,k<=N/\q=.int .i64 k/\Hid (CpI w x k s wr)) (fun _ q _=>N-(intOf q).toNat)
 case atStart=>exact⟨0,zL,rfl,x0⟩
 case round =>
  rename_i s _
  obtain⟨k,hk,rfl,HC⟩:=hrel;obtain⟨a0,c0,hs⟩:=HC.out.form;subst hs;by_cases I0:k<N
  ·have:(k:Int)<(N:Int):=by omega
   have p0:k<x.t.len:=by rw[<-HN.out];exact I0
   have hI:=H.out.below HC.out.below lR;have hg:=hI.ga (by omega);rw[<-F0.out]at hg;subst hg;have i0:=hI.row k p0;have y0:x.gb<wr.heap.size:=Nat.lt_of_lt_of_le (hI.gb (by omega)) HC.out.below.size;have z0:=HW.out k p0;obtain⟨W1,w0⟩:∃W1,W1=wr.alloc (.cells #[] 3):=⟨_,rfl⟩;have j0:Below wr.heap.size wr W1:=by rw[w0];exact(Below.refl _ wr).alloc lR _
   have k0:Ints (x.A k) (x.t.L k) (x.RB k) (x.RO k) (x.t.Z k) W1:=(hI.ints p0).below j0 (fun h0=>Nat.lt_of_lt_of_le (hI.addr k p0 h0).2 HC.out.below.size);obtain⟨a2,c2,b2,W2,d0,C0,s0,D0⟩:=uM W1 wr.heap.size (x.A k) (x.t.L k) (x.C k) (x.RB k) (x.RO k) (x.t.Z k) k0 z0 32;obtain⟨L,hL⟩:∃L,L=x.t.L k:=⟨_,rfl⟩;obtain⟨W3,u0⟩:∃W3,W3=W2.alloc (.cells #[.slice a2 (x.t.L k) c2] 32):=⟨_,rfl⟩;have q0:Below W2.heap.size W2 W3:=by rw[u0];exact(Below.refl _ W2).alloc lR _
   have A0:=((HC.out.keep j0).keep D0).keep q0;obtain⟨g,cap,W4,f0,E0⟩:=A0.push (A:=a2) (C:=c2) (b0:=b2) (by omega) (C0.below q0 (fun h0=>(s0 h0).1.lt)) (fun h0=>⟨Nat.le_trans (Nat.le_trans HC.out.below.size j0.size) (s0 h0).2,(s0 h0).1.grown q0⟩) (s:=W2.heap.size) (by rw[u0];exact Blk.new W2 _ _) 22;have g0:W1.cell? ⟨x.gb,x.go+k,none⟩=some (.slice (x.A k) (x.t.L k) (x.C k)):=by rw[j0.cell (p:=⟨x.gb,x.go+k,none⟩) y0];exact i0
   rw[w0]at d0 g0;rw[u0]at f0;rw[<-hL]at g0 d0 f0;have B0:=hide E0;have m0:=hide d0;have o0:=hide f0;clear d0 f0 i0 y0 hI k0 C0 s0 D0 j0 q0 A0 E0 z0 w0 u0 hL HC x0;go_wp2_with (at_builtin;first | refine Lib.wpList_append_run _ rfl _ _ _ _ rfl _ _ rfl rfl _ _ m0.out ?_ | refine Lib.wpList_append_run _ rfl _ _ _ _ rfl _ _ rfl rfl _ _ o0.out ?_);go_roundw
   case rel =>
    first
    | exact⟨k+1,by omega,by go_num,B0⟩
    | ((repeat apply Exists.intro);refine⟨?_,rfl⟩;exact⟨k+1,by omega,by go_num,B0⟩)
   case measure=>simp[intOf];omega
  ·have G0:k=N:=by omega
   subst G0;have hC:=HC.out;rw[HN.out]at hC;obtain⟨m,e1,e2,e3⟩:=hC.mat H.out.len H.out.lens;rw[<-HN.out]at e1;have H0:=hide e1;have HF:=hide (And.intro e2 (And.intro e3 HC.out.below));clear hC e1 e2 e3;go_wp2;go_ret;exact⟨⟨m,congrArg Ending.returned H0.out,HF.out.1,HF.out.2.1⟩,HF.out.2.2⟩
end Go.Proofs.YtjhkadffaephmacGreat

namespace Go.Proofs.YtjhkadffaephmacGreat
set_option maxHeartbeats 16000000
set_option maxRecDepth 100000
open Go
section
variable {P:Program} {ops:Array Oper} {Q:Exit->Act->World->Prop} {md:Region.Mode}
def YH (md:Region.Mode) (ops:Array Oper) (S:Nat):Nat->Nat->Bool
 | 0,_=>false
 | f+1,k=>(List.range (S+1)).any fun i=>(match ops[i]? with | some o=>(waits md o).contains k | none=>false) && (i == S || YH md ops S f i)
theorem UE {S:Nat}{d:Nat->Bool}(hs:Shut md ops d)(hS:d S=true):∀f k,YH md ops S f k=true->d k=true
 | 0,_,h=>by cases h
 | f+1,k,h=>by
  unfold YH at h;rw[List.any_eq_true]at h;obtain⟨i,_,hx⟩:=h;simp only[Bool.and_eq_true,Bool.or_eq_true,beq_iff_eq]at hx;obtain⟨h1,h2⟩:=hx;cases ho:ops[i]? with
  | none=>rw[ho]at h1;cases h1
  | some o =>
   rw[ho]at h1;have hm:k∈waits md o:=by simpa using h1
   have hi:d i=true:=by
    rcases h2 with h2 | h2
    ·rw[h2];exact hS
    ·exact UE hs hS f i h2
   exact hs i o ho hi k hm
def ZU (P:Program) (md:Region.Mode) (ops:Array Oper) (Q:Exit->Act->World->Prop) (S F:Nat) (G:Bool->World->Prop) (E:Bool->Nat->Value->World->Prop) (a0:Act) (o:Oper) (i:Nat):Prop :=
 ∀ (b:Bool) (t:Nat->Value) (w:World),(YH md ops S F i=true->b=false)->G b w->(∀j∈waits md o,E b j (t j) w) ->
  ∀K:Act->World->Prop,(∀v w',G b w'->E b i v w'->(∀j,j≠i->E b j (t j) w->E b j (t j) w')->K ((fill ops.toList 0 t a0).put o.dst v) w') ->
   if Region.wanted o (yielded ops (fill ops.toList 0 t a0).tmps)=true then Oper.wp P o (fill ops.toList 0 t a0) w K Q else K ((fill ops.toList 0 t a0).put o.dst undef) w
def YU (P:Program) (md:Region.Mode) (ops:Array Oper) (Q:Exit->Act->World->Prop) (G:Bool->World->Prop) (E:Bool->Nat->Value->World->Prop) (a0:Act) (o:Oper) (i:Nat):Prop :=
 ∀ (t:Nat->Value) (w:World),G false w->(∀j∈waits md o,E false j (t j) w) ->
  ∀K:Act->World->Prop,(∀v w',G true w'->E true i v w'->(∀j,j≠i->E false j (t j) w->E true j (t j) w')->K ((fill ops.toList 0 t a0).put o.dst v) w') ->
   if Region.wanted o (yielded ops (fill ops.toList 0 t a0).tmps)=true then Oper.wp P o (fill ops.toList 0 t a0) w K Q else K ((fill ops.toList 0 t a0).put o.dst undef) w
def nK (P:Program) (md:Region.Mode) (ops:Array Oper) (Q:Exit->Act->World->Prop) (S F:Nat) (G:Bool->World->Prop) (E:Bool->Nat->Value->World->Prop) (a0:Act):List Oper->Nat->Prop
 | [],_=>True
 | o :: os,i=>(if i=S then YU P md ops Q G E a0 o i else ZU P md ops Q S F G E a0 o i)/\nK P md ops Q S F G E a0 os (i+1)
structure IU (md:Region.Mode) (ops:Array Oper) (S:Nat) (G:Bool->World->Prop) (E:Bool->Nat->Value->World->Prop) (d:Nat->Bool) (t:Nat->Value) (w:World):Prop where
 shut:Shut md ops d
 held:G (d S) w
 left:∀k,d k=true->E (d S) k (t k) w
theorem JH {S F:Nat}{G:Bool->World->Prop}{E:Bool->Nat->Value->World->Prop}{a0:Act}:∀ (os:List Oper) (i:Nat),(∀j o,os[j]? = some o->ops[i+j]? = some o)->nK P md ops Q S F G E a0 os i->UF P md ops Q (IU md ops S G E) a0 os i
 | [],_,_,_=>trivial
 | o :: os,i,hos,h=>by
  have ho:ops[i]? = some o:=by simpa using hos 0 o rfl
  refine⟨fun d t w hI hd hp K hK=>?_,JH os (i+1) (fun j o' hj=>by rw[show i+1+j=i+(j+1) by omega];exact hos (j+1) o' (by simpa using hj)) h.2⟩;have h1:=h.1;by_cases e:i=S
  ·rw[if_pos e]at h1;subst e;have hG:=hI.held;rw[hd]at hG;have hS:NA d i i=true:=by simp[NA]
   refine h1 t w hG (fun j hj=>by have:=hI.left j (hp j hj);rwa [hd]at this) K (fun v w' hG' hE hkeep=>hK v w' ⟨hI.shut.upd ho hp,by rw[hS];exact hG',fun k hk=>?_⟩);rw[hS];by_cases ek:k=i
   ·subst ek;rw[upd_same];exact hE
   ·rw[MB t v ek];refine hkeep k ek ?_;have:=hI.left k (by simpa [NA,ek] using hk);rwa [hd]at this
  ·rw[if_neg e]at h1;have hS:NA d i S=d S:=by unfold NA;exact if_neg (fun hh=>e hh.symm)
   refine h1 (d S) t w (fun hr=>?_) hI.held (fun j hj=>hI.left j (hp j hj)) K (fun v w' hG hE hkeep=>hK v w' ⟨hI.shut.upd ho hp,by rw[hS];exact hG,fun k hk=>?_⟩)
   ·cases eS:d S with
    | false=>rfl
    | true =>
     have:=UE hI.shut eS F i hr;rw[hd]at this;cases this
   ·rw[hS];by_cases ek:k=i
    ·subst ek;rw[upd_same];exact hE
    ·rw[MB t v ek];exact hkeep k ek (hI.left k (by simpa [NA,ek] using hk))
theorem WF {id:Nat}{a:Act}{w:World}(S F:Nat)(G:Bool->World->Prop)(E:Bool->Nat->Value->World->Prop)(hm:P.follows .mixedOrders=true)
 (hap:uC ops.toList=true) (hb:WB .any ops.toList 0=true) (hS:S<ops.size) (hG:G false w.drew)
 (hs:nK P .any ops Q S F G E a ops.toList 0)
 (hend:∀ (t:Nat->Value) (w:World),G true w->(∀i,i<ops.size->E true i (t i) w)->Q .normal (fill ops.toList 0 t a) w) :
 (Code.region id ops true).wp P Q a w:=by
 refine wp_region_any hm ?_;have hz:(fun i=>(Array.replicate ops.size false).getD i false)=fun _=>false:=by
  funext i;by_cases hi:i<ops.size
  ·simp[hi]
  ·simp[hi]
 have:=uE (md:=.any) (I:=IU .any ops S G E) hap hb (JH ops.toList 0 (fun j o hj=>by simpa using hj) hs) (fun d t w hI hall=>hend t w (by have:=hI.held;rwa [hall S hS]at this) (fun i hi=>by have:=hI.left i (hall i hi);rwa [hall S hS]at this)) ops.size (Array.replicate ops.size false) (first ops.toList a) w.drew (by simp) (by simp)
  (by rw[hz];exact⟨fun i o _ h=>by simp at h,hG,fun _ h=>by cases h⟩)
 rw[lD]at this;exact this
end
section
variable {P:Program} {ops:Array Oper} {Q:Exit->Act->World->Prop} {md:Region.Mode}
theorem wE {d:Nat->Bool}{i S F:Nat}{o:Oper}(hs:Shut md ops d)(ho:ops[i]? = some o)(hw:∀j∈waits md o,d j=true)(hr:YH md ops i F S=true)(hne:S≠i):d S=true:=by
 have h1:=hs.upd ho hw;have h2:=UE h1 (S:=i) (by simp[NA]) F S hr;simpa [NA,hne] using h2
theorem wB {d:Nat->Bool}{i S F:Nat}(hs:Shut md ops d)(hi:d i=false)(hr:YH md ops S F i=true):d S=false:=by
 cases e:d S with
 | false=>rfl
 | true =>
  have:=UE hs e F i hr;rw[hi]at this;cases this
def oK (P:Program) (md:Region.Mode) (ops:Array Oper) (Q:Exit->Act->World->Prop) (G:(Nat->Bool)->World->Prop) (E:(Nat->Bool)->Nat->Value->World->Prop) (a0:Act):List Oper->Nat->Prop
 | [],_=>True
 | o :: os,i=>(∀ (d:Nat->Bool) (t:Nat->Value) (w:World),Shut md ops d->ops[i]? = some o->d i=false->(∀j∈waits md o,d j=true)->G d w->(∀j,d j=true->E d j (t j) w) ->
  ∀K:Act->World->Prop,(∀v w',G (NA d i) w'->E (NA d i) i v w'->(∀j,j≠i->d j=true->E d j (t j) w->E (NA d i) j (t j) w')->K ((fill ops.toList 0 t a0).put o.dst v) w') ->
   if Region.wanted o (yielded ops (fill ops.toList 0 t a0).tmps)=true then Oper.wp P o (fill ops.toList 0 t a0) w K Q else K ((fill ops.toList 0 t a0).put o.dst undef) w) /\
  oK P md ops Q G E a0 os (i+1)
structure KU (md:Region.Mode) (ops:Array Oper) (G:(Nat->Bool)->World->Prop) (E:(Nat->Bool)->Nat->Value->World->Prop) (d:Nat->Bool) (t:Nat->Value) (w:World):Prop where
 shut:Shut md ops d
 held:G d w
 left:∀k,d k=true->E d k (t k) w
theorem LH {G:(Nat->Bool)->World->Prop}{E:(Nat->Bool)->Nat->Value->World->Prop}{a0:Act}:∀ (os:List Oper) (i:Nat),(∀j o,os[j]? = some o->ops[i+j]? = some o)->oK P md ops Q G E a0 os i->UF P md ops Q (KU md ops G E) a0 os i
 | [],_,_,_=>trivial
 | o :: os,i,hos,h=>by
  have ho:ops[i]? = some o:=by simpa using hos 0 o rfl
  refine⟨fun d t w hI hd hp K hK=>?_,LH os (i+1) (fun j o' hj=>by rw[show i+1+j=i+(j+1) by omega];exact hos (j+1) o' (by simpa using hj)) h.2⟩;refine h.1 d t w hI.shut ho hd hp hI.held hI.left K (fun v w' hG hE hkeep=>hK v w' ⟨hI.shut.upd ho hp,hG,fun k hk=>?_⟩);by_cases ek:k=i
  ·subst ek;rw[upd_same];exact hE
  ·rw[MB t v ek];have d0:d k=true:=by simpa [NA,ek] using hk
   exact hkeep k ek d0 (hI.left k d0)
theorem vD {id:Nat}{a:Act}{w:World}(G:(Nat->Bool)->World->Prop)(E:(Nat->Bool)->Nat->Value->World->Prop)(hm:P.follows .mixedOrders=true)
 (hap:uC ops.toList=true) (hb:WB .any ops.toList 0=true) (hG:G (fun _=>false) w.drew)
 (hs:oK P .any ops Q G E a ops.toList 0)
 (hend:∀ (d:Nat->Bool) (t:Nat->Value) (w:World),(∀i,i<ops.size->d i=true)->G d w->(∀i,i<ops.size->E d i (t i) w)->Q .normal (fill ops.toList 0 t a) w) :
 (Code.region id ops true).wp P Q a w:=by
 refine wp_region_any hm ?_;have hz:(fun i=>(Array.replicate ops.size false).getD i false)=fun _=>false:=by
  funext i;by_cases hi:i<ops.size
  ·simp[hi]
  ·simp[hi]
 have:=uE (md:=.any) (I:=KU .any ops G E) hap hb (LH ops.toList 0 (fun j o hj=>by simpa using hj) hs) (fun d t w hI hall=>hend d t w hall hI.held (fun i hi=>hI.left i (hall i hi))) ops.size (Array.replicate ops.size false) (first ops.toList a) w.drew (by simp) (by simp)
  (by rw[hz];exact⟨fun i o _ h=>by simp at h,hG,fun _ h=>by cases h⟩)
 rw[lD]at this;exact this
end
end Go.Proofs.YtjhkadffaephmacGreat
