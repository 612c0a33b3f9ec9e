import Derived.Test.YtjhkadffaephmacGreatCutRestStatesAF
import Derived.ProofKit
import Derived.OpenShut
import Derived.Below
import Derived.Deep.Matrix
import Derived.DeepKeys4
namespace Go.Proofs.YtjhkadffaephmacGreat
set_option maxHeartbeats 16000000
set_option maxRecDepth 100000
open Go.RowKit
theorem NJ (fid:Nat)(cap:Array Value)(x:kC)(p:Nat->Bool)(w:World)(h:x.In w.heap.size w)
 (hcf:∀ (args:Array Value) (W:World),(callFunc fid args).run Tryz.prog W=.ok (.enter fid args) W)
 (hat:∀ (i:Nat) (W:World),i<x.gn->Below w.heap.size w W->Calls Tryz.prog fid (#[.agg #[.slice (x.r i).ra (x.r i).rl (x.r i).rc,.slice (x.r i).T.ga (x.r i).T.t.len (x.r i).T.cap]] ++ cap) W fun e w'=>e=.returned (.bool (p i))/\Below W.heap.size W w') :
 Calls Tryz.prog 128 #[x.val,.func (.func fid) #[] cap] w fun e w'=>(∃r:Int,e=.returned (.int .i64 r)/\decide (0<=r)=(List.range x.gn).any p)/\Below w.heap.size w w':=by
 have i0:=h.len;unfold maxLen at i0;have HA:=hide hat;have H:=hide h;simp only[kC.val];clear hat h;go_enter Tryz.func128,Tryz.ntmps128;go_wp2
 go_loopw [5,8] (fun _ i wr=>∃k:Nat,k<=x.gn/\i=.int .i64 k/\Hid (∀r,r<k->p r=false)/\Hid (Below w.heap.size w wr)) (fun _ i _=>x.gn-(intOf i).toNat)
 case atStart=>exact⟨0,zL,rfl,hide (fun r hr=>absurd hr nZ),hide (Below.refl _ _)⟩
 case round =>
  obtain⟨k,hk,rfl,d0,HB⟩:=hrel;by_cases h0:k<x.gn
  ·have ha:=H.out.ga (by omega);have hI:=H.out.below HB.out lR;have:=hI.c0 k h0;have:=hI.c1 k h0;clear hI;have:(k:Int)<(x.gn:Int):=by omega
   have HC:=hide (HA.out k wr h0 HB.out);by_cases hp:p k=true
   ·rw[hp]at HC;have Hw:Hid ((List.range x.gn).any p=true):=hide (List.any_eq_true.2 ⟨k,List.mem_range.2 h0,hp⟩);clear hp;go_wp2_with fail;refine HC.out.mono ?_;rintro e w2 ⟨rfl,f0⟩;have g0:=hide (HB.out.trans (f0.mono HB.out.size));clear f0;go_wp2;go_ret;exact⟨⟨(k:Int),rfl,by rw[Hw.out];simp⟩,g0.out⟩
   ·have j0:p k=false:=by simpa using hp
    rw[j0]at HC;have k0:=hide j0;clear hp j0;go_wp2_with fail;refine HC.out.mono ?_;rintro e w2 ⟨rfl,f0⟩;have g0:=hide (HB.out.trans (f0.mono HB.out.size));clear f0;have Hn:Hid (∀r,r<k+1->p r=false):=hide (fun r hr=>by
     by_cases e:r=k
     ·subst e;exact k0.out
     ·exact d0.out r (by omega))
    go_wp2;go_roundw
    case rel =>
     first
     | exact⟨k+1,by omega,by go_num,Hn,g0⟩
     | ((try rw[<-ha]);(repeat apply Exists.intro);refine⟨?_,rfl⟩;exact⟨k+1,by omega,by go_num,Hn,g0⟩)
    case measure=>simp[intOf];omega
  ·have Hw:Hid ((List.range x.gn).any p=false):=hide (by
    rw[List.any_eq_false];intro r hr;rw[d0.out r (by have:=List.mem_range.1 hr;omega)];decide)
   go_wp2;go_ret;exact⟨⟨-1,rfl,by rw[Hw.out];rfl⟩,HB.out⟩
theorem aF (fid:Nat)(cap:Array Value)(x:kC)(p:Nat->Bool)(w:World)(h:x.In w.heap.size w)
 (hcf:∀ (args:Array Value) (W:World),(callFunc fid args).run Tryz.prog W=.ok (.enter fid args) W)
 (hat:∀ (i:Nat) (W:World),i<x.gn->Below w.heap.size w W->Calls Tryz.prog fid (#[.agg #[.slice (x.r i).ra (x.r i).rl (x.r i).rc,.slice (x.r i).T.ga (x.r i).T.t.len (x.r i).T.cap]] ++ cap) W fun e w'=>e=.returned (.bool (p i))/\Below W.heap.size W w') :
 Calls Tryz.prog 93 #[x.val,.func (.func fid) #[] cap] w fun e w'=>e=.returned (.bool ((List.range x.gn).any p))/\Below w.heap.size w w':=by
 have HC:=hide (NJ fid cap x p w h  hcf hat);simp only[kC.val]at HC |-;clear h hat hcf;go_enter Tryz.func93,Tryz.ntmps93;go_wp2_with fail;go_at_call 128;refine HC.out.mono ?_;rintro e w1 ⟨⟨r,rfl,hr⟩,hb⟩;have HB:=hide hb;have HR:=hide hr;clear hb hr;go_wp2;go_ret;exact⟨by rw[<-HR.out];rfl,HB.out⟩
theorem JK (fid:Nat)(cap:Array Value)(x:TC)(p:Nat->Bool)(w:World)(h:x.In w.heap.size w)
 (hcf:∀ (args:Array Value) (W:World),(callFunc fid args).run Tryz.prog W=.ok (.enter fid args) W)
 (hat:∀ (i:Nat) (W:World),i<x.bn->Below w.heap.size w W->Calls Tryz.prog fid (#[.agg #[.int .i64 (x.M i).F,.int .i64 (x.M i).T,.string ⟨(x.M i).b.toArray⟩]] ++ cap) W fun e w'=>e=.returned (.bool (p i))/\Below W.heap.size W w') :
 Calls Tryz.prog 129 #[x.val,.func (.func fid) #[] cap] w fun e w'=>(∃r:Int,e=.returned (.int .i64 r)/\decide (0<=r)=(List.range x.bn).any p)/\Below w.heap.size w w':=by
 have i0:=h.len;unfold maxLen at i0;have HA:=hide hat;have H:=hide h;simp only[TC.val];clear hat h;go_enter Tryz.func129,Tryz.ntmps129;go_wp2
 go_loopw [5,8] (fun _ i wr=>∃k:Nat,k<=x.bn/\i=.int .i64 k/\Hid (∀r,r<k->p r=false)/\Hid (Below w.heap.size w wr)) (fun _ i _=>x.bn-(intOf i).toNat)
 case atStart=>exact⟨0,zL,rfl,hide (fun r hr=>absurd hr nZ),hide (Below.refl _ _)⟩
 case round =>
  obtain⟨k,hk,rfl,d0,HB⟩:=hrel;by_cases g0:k<x.bn
  ·have ha:=H.out.ba (by omega);have hI:=H.out.below HB.out lR;have:=hI.c0 k g0;have:=hI.c1 k g0;have:=hI.c2 k g0;clear hI;have:(k:Int)<(x.bn:Int):=by omega
   have HC:=hide (HA.out k wr g0 HB.out);by_cases hp:p k=true
   ·rw[hp]at HC;have Hw:Hid ((List.range x.bn).any p=true):=hide (List.any_eq_true.2 ⟨k,List.mem_range.2 g0,hp⟩);clear hp;go_wp2_with fail;refine HC.out.mono ?_;rintro e w2 ⟨rfl,f0⟩;have h0:=hide (HB.out.trans (f0.mono HB.out.size));clear f0;go_wp2;go_ret;exact⟨⟨(k:Int),rfl,by rw[Hw.out];simp⟩,h0.out⟩
   ·have j0:p k=false:=by simpa using hp
    rw[j0]at HC;have k0:=hide j0;clear hp j0;go_wp2_with fail;refine HC.out.mono ?_;rintro e w2 ⟨rfl,f0⟩;have h0:=hide (HB.out.trans (f0.mono HB.out.size));clear f0;have Hn:Hid (∀r,r<k+1->p r=false):=hide (fun r hr=>by
     by_cases e:r=k
     ·subst e;exact k0.out
     ·exact d0.out r (by omega))
    go_wp2;go_roundw
    case rel =>
     first
     | exact⟨k+1,by omega,by go_num,Hn,h0⟩
     | ((try rw[<-ha]);(repeat apply Exists.intro);refine⟨?_,rfl⟩;exact⟨k+1,by omega,by go_num,Hn,h0⟩)
    case measure=>simp[intOf];omega
  ·have Hw:Hid ((List.range x.bn).any p=false):=hide (by
    rw[List.any_eq_false];intro r hr;rw[d0.out r (by have:=List.mem_range.1 hr;omega)];decide)
   go_wp2;go_ret;exact⟨⟨-1,rfl,by rw[Hw.out];rfl⟩,HB.out⟩
theorem tF (fid:Nat)(cap:Array Value)(x:TC)(p:Nat->Bool)(w:World)(h:x.In w.heap.size w)
 (hcf:∀ (args:Array Value) (W:World),(callFunc fid args).run Tryz.prog W=.ok (.enter fid args) W)
 (hat:∀ (i:Nat) (W:World),i<x.bn->Below w.heap.size w W->Calls Tryz.prog fid (#[.agg #[.int .i64 (x.M i).F,.int .i64 (x.M i).T,.string ⟨(x.M i).b.toArray⟩]] ++ cap) W fun e w'=>e=.returned (.bool (p i))/\Below W.heap.size W w') :
 Calls Tryz.prog 97 #[x.val,.func (.func fid) #[] cap] w fun e w'=>e=.returned (.bool ((List.range x.bn).any p))/\Below w.heap.size w w':=by
 have HC:=hide (JK fid cap x p w h  hcf hat);simp only[TC.val]at HC |-;clear h hat hcf;go_enter Tryz.func97,Tryz.ntmps97;go_wp2_with fail;go_at_call 129;refine HC.out.mono ?_;rintro e w1 ⟨⟨r,rfl,hr⟩,hb⟩;have HB:=hide hb;have HR:=hide hr;clear hb hr;go_wp2;go_ret;exact⟨by rw[<-HR.out];rfl,HB.out⟩
theorem SI (fid:Nat)(cap:Array Value)(x:dA)(p:Nat->Bool)(w:World)(h:x.In w.heap.size w)
 (hcf:∀ (args:Array Value) (W:World),(callFunc fid args).run Tryz.prog W=.ok (.enter fid args) W)
 (hat:∀ (i:Nat) (W:World),i<x.ln->Below w.heap.size w W->Calls Tryz.prog fid (#[.agg #[.int .i64 (x.F i),.int .i64 (x.T i),.int .i64 (x.E i)]] ++ cap) W fun e w'=>e=.returned (.bool (p i))/\Below W.heap.size W w') :
 Calls Tryz.prog 154 #[.slice x.la x.ln x.lc,.func (.func fid) #[] cap] w fun e w'=>(∃r:Int,e=.returned (.int .i64 r)/\decide (0<=r)=(List.range x.ln).any p)/\Below w.heap.size w w':=by
 have i0:=h.len;unfold maxLen at i0;have HA:=hide hat;have H:=hide h;clear hat h;go_enter Tryz.func154,Tryz.ntmps154;go_wp2
 go_loopw [5,8] (fun _ i wr=>∃k:Nat,k<=x.ln/\i=.int .i64 k/\Hid (∀r,r<k->p r=false)/\Hid (Below w.heap.size w wr)) (fun _ i _=>x.ln-(intOf i).toNat)
 case atStart=>exact⟨0,zL,rfl,hide (fun r hr=>absurd hr nZ),hide (Below.refl _ _)⟩
 case round =>
  obtain⟨k,hk,rfl,d0,HB⟩:=hrel;by_cases g0:k<x.ln
  ·have ha:=H.out.la (by omega);have hI:=H.out.below HB.out lR;have:=hI.f k g0;have:=hI.t k g0;have:=hI.e k g0;clear hI;have:(k:Int)<(x.ln:Int):=by omega
   have HC:=hide (HA.out k wr g0 HB.out);by_cases hp:p k=true
   ·rw[hp]at HC;have Hw:Hid ((List.range x.ln).any p=true):=hide (List.any_eq_true.2 ⟨k,List.mem_range.2 g0,hp⟩);clear hp;go_wp2_with fail;refine HC.out.mono ?_;rintro e w2 ⟨rfl,f0⟩;have h0:=hide (HB.out.trans (f0.mono HB.out.size));clear f0;go_wp2;go_ret;exact⟨⟨(k:Int),rfl,by rw[Hw.out];simp⟩,h0.out⟩
   ·have j0:p k=false:=by simpa using hp
    rw[j0]at HC;have k0:=hide j0;clear hp j0;go_wp2_with fail;refine HC.out.mono ?_;rintro e w2 ⟨rfl,f0⟩;have h0:=hide (HB.out.trans (f0.mono HB.out.size));clear f0;have Hn:Hid (∀r,r<k+1->p r=false):=hide (fun r hr=>by
     by_cases e:r=k
     ·subst e;exact k0.out
     ·exact d0.out r (by omega))
    go_wp2;go_roundw
    case rel =>
     first
     | exact⟨k+1,by omega,by go_num,Hn,h0⟩
     | ((try rw[<-ha]);(repeat apply Exists.intro);refine⟨?_,rfl⟩;exact⟨k+1,by omega,by go_num,Hn,h0⟩)
    case measure=>simp[intOf];omega
  ·have Hw:Hid ((List.range x.ln).any p=false):=hide (by
    rw[List.any_eq_false];intro r hr;rw[d0.out r (by have:=List.mem_range.1 hr;omega)];decide)
   go_wp2;go_ret;exact⟨⟨-1,rfl,by rw[Hw.out];rfl⟩,HB.out⟩
theorem oH (fid:Nat)(cap:Array Value)(x:dA)(p:Nat->Bool)(w:World)(h:x.In w.heap.size w)
 (hcf:∀ (args:Array Value) (W:World),(callFunc fid args).run Tryz.prog W=.ok (.enter fid args) W)
 (hat:∀ (i:Nat) (W:World),i<x.ln->Below w.heap.size w W->Calls Tryz.prog fid (#[.agg #[.int .i64 (x.F i),.int .i64 (x.T i),.int .i64 (x.E i)]] ++ cap) W fun e w'=>e=.returned (.bool (p i))/\Below W.heap.size W w') :
 Calls Tryz.prog 149 #[.slice x.la x.ln x.lc,.func (.func fid) #[] cap] w fun e w'=>e=.returned (.bool ((List.range x.ln).any p))/\Below w.heap.size w w':=by
 have HC:=hide (SI fid cap x p w h  hcf hat);clear h hat hcf;go_enter Tryz.func149,Tryz.ntmps149;go_wp2_with fail;go_at_call 154;refine HC.out.mono ?_;rintro e w1 ⟨⟨r,rfl,hr⟩,hb⟩;have HB:=hide hb;have HR:=hide hr;clear hb hr;go_wp2;go_ret;exact⟨by rw[<-HR.out];rfl,HB.out⟩
end Go.Proofs.YtjhkadffaephmacGreat

namespace Go.Proofs.YtjhkadffaephmacGreat
set_option maxHeartbeats 16000000
set_option maxRecDepth 100000
open Go.RowKit Go.ChangeShapes Go.WideShapes Go.Joins Go.Deep
theorem Tryz.cells24:Tryz.prog.cellsOf 24=3:=by kernel_rfl
theorem Tryz.cells3:Tryz.prog.cellsOf 3=1:=by kernel_rfl
theorem Tryz.cells22:Tryz.prog.cellsOf 22=1:=by kernel_rfl
theorem Tryz.cells32:Tryz.prog.cellsOf 32=1:=by kernel_rfl
theorem PU {α:Type}{cs:Array α}(h:cs.size=5):∃a b c d e,cs=#[a,b,c,d,e]:=by
 obtain⟨l⟩:=cs
 match l,h with
 | [a,b,c,d,e],_=>exact⟨a,b,c,d,e,rfl⟩
section
variable {H:Type} {enc:TypeId×Value->H} {W:World}
theorem tH {n:Nat}{v:Value}{y:DataW H×List MemPlace}(h:DataW.trod enc Tryz.prog W 0 (fun _=>true) true n 22 [v]=some y):∃m:Mat,v=m.val/\m.In W.heap.size W:=by
 rcases open_int_rows Tryz.underlying22 Tryz.underlying32 Tryz.underlying3 Tryz.cells32 Tryz.cells3 h with ⟨hcs,_⟩ | ⟨a,len,cap,A,L,C,Z,hcs,_,hl,hm,_,hrows⟩
 ·simp at hcs;refine⟨⟨none,0,0,0,fun _=>none,fun _=>0,fun _=>0,fun _=>0,⟨0,fun _=>0,fun _ _=>0⟩⟩,hcs,⟨?_,?_,?_,?_,?_,zL,?_⟩⟩
  all_goals intro r
  ·exact absurd r nZ
  ·exact absurd r nZ
  all_goals
   intro hr;exact absurd hr nZ
 ·simp at hcs;obtain⟨gb,go,gs⟩:=a;rcases Nat.eq_zero_or_pos len with hl0 | hlp
  ·subst hl0;refine⟨⟨some ⟨gb,go,gs⟩,0,0,cap,A,C,fun _=>0,fun _=>0,⟨0,fun _=>0,fun _ _=>0⟩⟩,hcs,⟨?_,?_,?_,?_,?_,zL,?_⟩⟩
   all_goals intro r
   ·exact absurd r nZ
   ·exact absurd r nZ
   all_goals
    intro hr;exact absurd hr nZ
  ·have i0:gs=none:=by simpa [Addr.add] using World.cell?_spot (hrows 0 (by omega)).1
   subst i0;have g0:∀r,r<len->W.cell? ⟨gb,go+r,none⟩=some (.slice (A r) (L r) (C r)):=fun r hr=>by rw[<-add_plain];exact(hrows r (by omega)).1
   have f0:∀r,r<len->∀c,c<L r->A r=some ⟨((A r).getD default).block,((A r).getD default).off,none⟩/\W.cell? ⟨((A r).getD default).block,((A r).getD default).off+c,none⟩=some (.int .i64 ((Z r).getD c 0)):=fun r hr c hc=>by
    obtain⟨_,h1,_,k0,_,h3,h4⟩:=hrows r (by omega);cases hA:A r with
    | none=>have:=h3 hA;omega
    | some a' =>
     obtain⟨ab,ao,j0⟩:=a';obtain⟨_,d0⟩:=h4 _ hA;have has:j0=none:=by simpa [Addr.add] using World.cell?_spot (d0 0 (by omega))
     subst has;exact⟨rfl,by have:=d0 c (by omega);rwa [add_plain]at this⟩
   refine⟨⟨some ⟨gb,go,none⟩,gb,go,cap,A,C,fun r=>((A r).getD default).block,fun r=>((A r).getD default).off,⟨len,L,fun r c=>(Z r).getD c 0⟩⟩,hcs,⟨fun _=>rfl,fun _=>World.block_lt_of_cell? _ _ (g0 0 hlp),g0,fun r hr h0=>⟨(f0 r hr 0 h0).1,World.block_lt_of_cell? W ⟨((A r).getD default).block,((A r).getD default).off+0,none⟩ (f0 r hr 0 h0).2⟩,fun r hr c hc=>(f0 r hr c hc).2,by show len<=maxLen;omega,fun r hr=>?_⟩⟩;obtain⟨_,h1,h2,_⟩:=hrows r (by have:r<len:=hr;omega);show L r<=maxLen;omega
end
theorem Tryz.own:ownKnob Tryz.prog.godebug=none:=by kernel_rfl
theorem Tryz.laidOut:laidOutB Tryz.prog=true:=by kernel_rfl
end Go.Proofs.YtjhkadffaephmacGreat

namespace Go.Proofs.YtjhkadffaephmacGreat
set_option maxHeartbeats 16000000
set_option maxRecDepth 100000
open Go.RowKit
theorem JF:Maps.Keyed Tryz.prog 128 :=
 Maps.Keyed.of_law (deep_law_laid Tryz.laidOut (m:=2) (by omega) (by decide +kernel) (by decide +kernel) (by decide +kernel))
theorem Tryz.cells128:Tryz.prog.cellsOf 128=2:=by kernel_rfl
def YE (f t:Int):Value:=.agg #[.int .i64 f,.int .i64 t]
theorem aR {f t g u:Int}(h:YE f t=YE g u):f=g/\t=u:=by simpa [YE] using h
theorem gT {f t:Int}(wf:(Lit.int .i64 f).wf=true)(wt:(Lit.int .i64 t).wf=true):∃l,keyOf Tryz.prog 128 (YE f t)=some l:=by
 have d0:Tryz.prog.keyType 128=true:=by kernel_rfl
 obtain⟨m,hm⟩:∃m,Tryz.prog.types.size=m+1:=⟨Tryz.prog.types.size-1,by kernel_rfl⟩;refine⟨.string (keyBytes [.int .i64 f,.int .i64 t]),?_⟩;unfold keyOf YE;simp only[Tryz.underlying128];rw[if_pos (by simp[d0,Value.formed,Tryz.underlying128,Tryz.cells128]),hm];unfold Program.keyLits;simp only[Tryz.underlying128,Value.cells];simp[Tryz.cells128,Tryz.cells3,Program.keyLits,Tryz.underlying3,wf,wt]
theorem QU (w:World):(zeroValue 3).run Tryz.prog w=.ok (.int .i64 0) w:=by kernel_rfl
structure SC (k:TypeId) (ks:List Value) (cnt:Value->Int) (b:Nat) (w:World) (es:Array MapEntry) (clock:Nat):Prop where
 blk:w.heap[b]? = some (.map es clock)
 born:∀x∈es.toList,x.born<clock
 apart:(es.toList.map (·.born)).Nodup
 keys:es.toList.map (·.key)=ks
 once:ks.Nodup
 vals:∀x∈es.toList,x.val=.int .i64 (cnt x.key)
 zero:∀v,v ∉ ks->cnt v=0
 kinds:∀v∈ks,∃l,keyOf Tryz.prog k v=some l
def bV (ks:List Value) (v:Value) (ks':List Value):Prop:=(v∈ks/\ks'=ks)\/(v ∉ ks/\ks'=ks ++ [v])
section
variable {t k:TypeId} {ks:List Value} {cnt:Value->Int} {b:Nat} {w:World} {es:Array MapEntry} {clock:Nat}
theorem SC.find (h:SC k ks cnt b w es clock)(K:Maps.Keyed Tryz.prog k){v:Value}{l:Lit}(hv:keyOf Tryz.prog k v=some l)(W:World):
 ((Instr.findKey k v es.toList).run Tryz.prog W=.ok none W/\v ∉ ks)\/∃j x,(Instr.findKey k v es.toList).run Tryz.prog W=.ok (some (j,x.val)) W/\es.toList[j]? = some x/\x.key=v/\v∈ks:=by
 rcases K.find W hv es.toList (fun e he=>h.kinds e.key (by rw[<-h.keys];exact List.mem_map.2 ⟨e,he,rfl⟩)) with ⟨h1,h2⟩ | ⟨j,e,h1,h2,h3⟩
 ·refine Or.inl ⟨h1,fun hm=>?_⟩;rw[<-h.keys]at hm;obtain⟨x,hx,e⟩:=List.mem_map.1 hm;exact h2 x hx e
 ·exact Or.inr ⟨j,e,h1,h2,h3,by rw[<-h.keys,<-h3];exact List.mem_map.2 ⟨e,List.mem_of_getElem? h2,rfl⟩⟩
theorem SC.look (h:SC k ks cnt b w es clock)(K:Maps.Keyed Tryz.prog k)(ht:Tryz.prog.underlying t=some (.map k 3)){v:Value}{l:Lit}(hv:keyOf Tryz.prog k v=some l):
 (Instr.lookup t (.map (some b)) v false).run Tryz.prog w=.ok (.int .i64 (cnt v)) w:=by
 rcases h.find K hv w with ⟨h1,h2⟩ | ⟨j,x,h1,h2,h3,_⟩
 ·rw[h.zero v h2];simp[Instr.lookup,run_underlying ht,MapKept.run_getObj_map h.blk,K.check w _ hv,h1,Result.andThen]
 ·have hx:=h.vals x (List.mem_of_getElem? h2);rw[h3]at hx;simp[Instr.lookup,run_underlying ht,MapKept.run_getObj_map h.blk,K.check w _ hv,h1,hx,Result.andThen]
theorem SC.entry (h:SC k ks cnt b w es clock)(K:Maps.Keyed Tryz.prog k)(ht:Tryz.prog.underlying t=some (.map k 3)){v:Value}{l:Lit}(hv:keyOf Tryz.prog k v=some l):
 ∃ (st:Nat) (ks':List Value) (es1:Array MapEntry) (clock1:Nat),(Instr.mapEntry t (.map (some b)) v).run Tryz.prog w=.ok (.tuple #[.int .i64 (cnt v),.int .i64 st]) (ChangeMaps.setBlock w b (.map es1 clock1)) /\
  bV ks v ks'/\SC k ks' cnt b (ChangeMaps.setBlock w b (.map es1 clock1)) es1 clock1 /\
  ∀n:Int,∃ (es2:Array MapEntry),(Instr.entryStore t (.map (some b)) (.int .i64 st) (.int .i64 n)).run Tryz.prog (ChangeMaps.setBlock w b (.map es1 clock1))=.ok () (ChangeMaps.setBlock w b (.map es2 clock1)) /\
   ∀c:Value->Int,(∀u,u≠v->c u=cnt u)->c v=n->SC k ks' c b (ChangeMaps.setBlock w b (.map es2 clock1)) es2 clock1:=by
 have hs:∀o,(ChangeMaps.setBlock w b o).heap[b]? = some o:=fun o=>ChangeMaps.heap_setBlock_same h.blk o;have s0:∀o o',ChangeMaps.setBlock (ChangeMaps.setBlock w b o) b o'=ChangeMaps.setBlock w b o':=fun o o'=>by simp[ChangeMaps.setBlock]
 rcases h.find K hv w with ⟨h1,h2⟩ | ⟨j,x,h1,h2,h3,h4⟩
 ·have i0:((es.push ⟨v,.int .i64 0,clock⟩).toList.map (·.born)).Nodup:=by
   simp only[Array.toList_push,List.map_append,List.map_cons,List.map_nil];refine List.nodup_append.2 ⟨h.apart,by simp,fun a ha c hc e1=>?_⟩;simp only[List.mem_singleton]at hc;obtain⟨x,hx,rfl⟩:=List.mem_map.1 ha;have:=h.born x hx;omega
  have mk:∀n:Int,∀c:Value->Int,(∀u,u≠v->c u=cnt u)->c v=n->SC k (ks ++ [v]) c b (ChangeMaps.setBlock w b (.map (es.push ⟨v,.int .i64 n,clock⟩) (clock+1))) (es.push ⟨v,.int .i64 n,clock⟩) (clock+1):=fun n c hc hn=>by
   refine⟨hs _,fun x hx=>?_,?_,?_,?_,fun x hx=>?_,fun u hu=>?_,fun u hu=>?_⟩
   ·rw[Array.toList_push,List.mem_append,List.mem_singleton]at hx;rcases hx with hx | rfl
    ·have:=h.born x hx;omega
    ·show clock<clock+1;omega
   ·simpa using i0
   ·simp[h.keys]
   ·refine List.nodup_append.2 ⟨h.once,by simp,fun a ha c hc e1=>?_⟩;simp only[List.mem_singleton]at hc;subst hc;subst e1;exact h2 ha
   ·rw[Array.toList_push,List.mem_append,List.mem_singleton]at hx;rcases hx with hx | rfl
    ·have hk:x.key≠v:=fun e=>h2 (by rw[<-h.keys,<-e];exact List.mem_map.2 ⟨x,hx,rfl⟩);rw[hc _ hk];exact h.vals x hx
    ·show Value.int .i64 n=.int .i64 (c v);rw[hn]
   ·simp only[List.mem_append,List.mem_singleton,not_or]at hu;rw[hc u hu.2];exact h.zero u hu.1
   ·simp only[List.mem_append,List.mem_singleton]at hu;rcases hu with hu | rfl
    ·exact h.kinds u hu
    ·exact⟨l,hv⟩
  refine⟨clock,ks ++ [v],es.push ⟨v,.int .i64 0,clock⟩,clock+1,?_,Or.inr ⟨h2,rfl⟩,mk 0 cnt (fun _ _=>rfl) (h.zero v h2),fun n=>⟨es.push ⟨v,.int .i64 n,clock⟩,?_,fun c h5 h6=>mk n c h5 h6⟩⟩
  ·rw[h.zero v h2];simp[Instr.mapEntry,run_underlying ht,MapKept.run_getObj_map h.blk,K.check w false hv,h1,QU w,MapKept.run_setObj_map _ h.blk,Result.andThen,ChangeMaps.setBlock,goInt]
  ·have f0:(es.push ⟨v,.int .i64 0,clock⟩).findIdx? (fun e=>((e.born:Nat):Int) == ((clock:Nat):Int))=some es.size:=by
    rw[Array.findIdx?_push];have:es.findIdx? (fun e=>((e.born:Nat):Int) == ((clock:Nat):Int))=none:=by
     rw[Array.findIdx?_eq_none_iff];intro x hx;have:=h.born x (by simpa using hx);simp;omega
    rw[this];simp
   have o0:(es.push ⟨v,.int .i64 0,clock⟩).modify es.size (fun e=>{ e with val:=.int .i64 n })=es.push ⟨v,.int .i64 n,clock⟩:=by
    apply Array.ext
    ·simp
    ·intro i i1 i2;simp only[Array.getElem_modify,Array.getElem_push];by_cases e:es.size=i
     ·subst e;simp
     ·have:i<es.size:=by simp at i2;omega
      simp[e,this]
   rw[<-s0 (.map (es.push ⟨v,.int .i64 0,clock⟩) (clock+1)) (.map (es.push ⟨v,.int .i64 n,clock⟩) (clock+1))];simp only[Instr.entryStore,Sem.run_bind,MapKept.run_getObj_map (hs (.map (es.push ⟨v,.int .i64 0,clock⟩) (clock+1))),Result.andThen];simp[asInt,asIntOf,f0,o0];exact MapKept.run_setObj_map _ (hs _)
 ·have hj:es[j]? = some x:=by simpa using h2
  have j0:j<es.size:=by
   rcases Nat.lt_or_ge j es.size with h' | h'
   ·exact h'
   ·rw[Array.getElem?_eq_none h']at hj;cases hj
  have h0:es[j]=x:=by simpa [j0] using hj
  have k0:es.modify j (fun e=>{ e with key:=v })=es:=by
   apply Array.ext
   ·simp
   ·intro i i1 i2;rw[Array.getElem_modify];by_cases e:j=i
    ·subst e;simp only[if_true];rw[h0,<-h3]
    ·rw[if_neg e]
  have d0:ChangeMaps.setBlock w b (.map es clock)=w:=by
   have hb:=h.blk;unfold ChangeMaps.setBlock;have:w.heap.setIfInBounds b (.map es clock)=w.heap:=by
    apply Array.ext
    ·simp
    ·intro i i1 i2;by_cases e:b=i
     ·subst e;simp;simpa [i2] using hb.symm
     ·exact Array.getElem_setIfInBounds_ne i2 e
   rw[this]
  have q0:=h.vals x (List.mem_of_getElem? h2);rw[h3]at q0;refine⟨x.born,ks,es,clock,?_,Or.inl ⟨h4,rfl⟩,by rw[d0];exact h,fun n=>⟨es.modify j (fun e=>{ e with val:=.int .i64 n }),?_,fun c h5 h6=>?_⟩⟩
  ·simp[Instr.mapEntry,run_underlying ht,MapKept.run_getObj_map h.blk,K.check w false hv,h1,hj,h3,K.stays w hv,k0,MapKept.run_setObj_map _ h.blk,Result.andThen,ChangeMaps.setBlock,goInt,q0]
  ·have f0:es.findIdx? (fun e=>((e.born:Nat):Int) == ((x.born:Nat):Int))=some j:=by
    rw[Array.findIdx?_eq_some_iff_getElem];refine⟨j0,by simp[h0],fun i hi=>?_⟩;have u0:i<es.size:=by omega
    have v0:es[i].born≠es[j].born:=fun e=>by
     have:=h.apart;rw[List.nodup_iff_pairwise_ne,List.pairwise_iff_getElem]at this;exact this i j (by simpa using u0) (by simpa using j0) hi (by simpa using e)
    rw[h0]at v0;simp;omega
   rw[d0];simp only[Instr.entryStore,Sem.run_bind,MapKept.run_getObj_map h.blk,Result.andThen];simp[asInt,asIntOf,f0,MapKept.run_setObj_map _ h.blk,ChangeMaps.setBlock]
  ·have g0:∀ (i:Nat) (h':i<es.size),(es.modify j (fun e=>{ e with val:=.int .i64 n }))[i]'(by simpa using h')=if j=i then { es[i] with val:=.int .i64 n } else es[i]:=fun i h'=>by rw[Array.getElem_modify]
   have m0:∀y∈(es.modify j (fun e=>{ e with val:=.int .i64 n })).toList,∃i,∃h':i<es.size,y=if j=i then { es[i] with val:=.int .i64 n } else es[i]:=fun y hy=>by
    obtain⟨i,i1,rfl⟩:=List.getElem_of_mem hy;have i2:i<es.size:=by simpa using i1
    exact⟨i,i2,by rw[Array.getElem_toList];exact g0 i i2⟩
   have w0:∀ (g:MapEntry->Nat),(∀y,g { y with val:=.int .i64 n }=g y)->(es.modify j (fun e=>{ e with val:=.int .i64 n })).toList.map g=es.toList.map g:=fun g hg=>by
    apply List.ext_getElem
    ·simp
    ·intro i i1 i2;have i3:i<es.size:=by simpa using i2
     simp only[List.getElem_map,Array.getElem_toList];rw[g0 i i3];split
     ·rw[hg]
     ·rfl
   have p0:(es.modify j (fun e=>{ e with val:=.int .i64 n })).toList.map (·.key)=es.toList.map (·.key):=by
    apply List.ext_getElem
    ·simp
    ·intro i i1 i2;have i3:i<es.size:=by simpa using i2
     simp only[List.getElem_map,Array.getElem_toList];rw[g0 i i3];split <;> rfl
   refine⟨hs _,fun y hy=>?_,by rw[w0 (·.born) (fun _=>rfl)];exact h.apart,by rw[p0];exact h.keys,h.once,fun y hy=>?_,fun u hu=>?_,h.kinds⟩
   ·obtain⟨i,hi,rfl⟩:=m0 y hy;have:=h.born es[i] (by simp);split <;> exact this
   ·obtain⟨i,hi,rfl⟩:=m0 y hy;split
    ·next e =>
     subst e;show Value.int .i64 n=.int .i64 (c es[j].key);rw[h0,h3,h6]
    ·next e =>
     have hk:es[i].key≠v:=fun e'=>by
      have:=h.once;rw[<-h.keys,List.nodup_iff_pairwise_ne,List.pairwise_iff_getElem]at this;rcases Nat.lt_or_gt_of_ne e with hlt | hlt
      ·exact this j i (by simpa using j0) (by simpa using hi) hlt (by simp[h0,h3,e'])
      ·exact this i j (by simpa using hi) (by simpa using j0) hlt (by simp[h0,h3,e'])
     rw[h5 _ hk];exact h.vals es[i] (by simp)
   ·rw[h5 u (fun e=>hu (by rw[e];exact h4))];exact h.zero u hu
theorem SC.keep (h:SC k ks cnt b w es clock){W:World}(e:W.heap[b]? = w.heap[b]?):SC k ks cnt b W es clock :=
 ⟨e.trans h.blk,h.born,h.apart,h.keys,h.once,h.vals,h.zero,h.kinds⟩
theorem SC.lt (h:SC k ks cnt b w es clock):b<w.heap.size:=(Array.getElem?_eq_some_iff.1 h.blk).1
theorem SC.alloc (h:SC k ks cnt b w es clock)(o:Obj):SC k ks cnt b (w.alloc o) es clock :=
 h.keep ((World.grownBy_alloc w o none).block b h.lt (by simp))
theorem SC.grown (h:SC k ks cnt b w es clock)(o:Obj):w.grownBy (ChangeMaps.setBlock w b o) (some b) :=
 ⟨rfl,rfl,rfl,by simp[ChangeMaps.setBlock],fun i _ hi=>ChangeMaps.heap_setBlock_other h.blk _ (fun e=>hi (by rw[e]))⟩
theorem SC.made (w:World)(k:TypeId):SC k [] (fun _=>0) w.heap.size (w.alloc (.map #[] 0)) #[] 0 where
 blk:=(MapKept.heap_alloc w _).1
 born:=fun x hx=>by simp at hx
 apart:=by simp
 keys:=by simp
 once:=by simp
 vals:=fun x hx=>by simp at hx
 zero:=fun _ _=>rfl
 kinds:=fun v hv=>by simp at hv
end
theorem RU {x a:Int}(h0:0<=x)(h1:x<a)(h2:a<=100):(Lit.int .i64 x).wf=true:=WalkArith.wf_i64 (by omega)
def Met (n:dA) (k b:Nat) (w:World):Prop :=
 ∃ (ks:List Value) (cnt:Value->Int) (es:Array MapEntry) (clock:Nat),SC 128 ks cnt b w es clock/\(∀f t:Int,cnt (YE f t)=if (List.range k).any (fun j=>n.F j == f && n.T j == t)=true then 1 else 0)
theorem dC {n:Net}{k:Nat}(h:(n.F k<0\/n.nodes<=n.F k)\/(n.T k<0\/n.nodes<=n.T k)\/(n.E k<0\/(n.a.E.len:Int)<=n.E k)):n.linkErr k=5:=by
 unfold Net.linkErr;rw[if_pos h]
theorem aK (n:dA)(w:World)(h:n.In w.heap.size w)(h1:1<=n.nodes)(h6:n.nodes<=6):
 Calls Tryz.prog 62 #[n.val] w fun e w'=>e=.returned (.int .i64 (aB n.net.linkErr n.ln))/\Below w.heap.size w w':=by
 have A0:=h.len;unfold maxLen at A0;have T0:=@run_makeMap Tryz.prog;simp only[dA.val,dA.cells,Mat.val];go_enter Tryz.func62,Tryz.ntmps62;go_wp2
 go_loopw [2,5,6,11] (fun _ _ _ i wr=>∃k:Nat,k<=n.ln/\i=.int .i64 k/\Hid (∀r,r<k->n.net.linkErr r=0)/\Hid (Met n k (w.heap.size+1) wr)/\Hid (Below (w.heap.size+1) (w.alloc (.cells #[.int .i64 n.a.size,.slice n.a.B.ga n.a.B.t.len n.a.B.cap,.slice n.a.E.ga n.a.E.t.len n.a.E.cap,.int .i64 n.nodes,.slice n.la n.ln n.lc] 27)) wr)) (fun _ _ _ i _=>n.ln-(intOf i).toNat)
 case atStart =>
  refine⟨0,zL,rfl,hide fun r hr=>absurd hr nZ,hide ⟨[],fun _=>0,#[],0,?_,fun f t=>by simp⟩,hide ((Below.refl _ _).alloc (by simp) _)⟩;have:=SC.made (w.alloc (.cells #[.int .i64 n.a.size,.slice n.a.B.ga n.a.B.t.len n.a.B.cap,.slice n.a.E.ga n.a.E.t.len n.a.E.cap,.int .i64 n.nodes,.slice n.la n.ln n.lc] 27)) 128;simpa using this
 case round =>
  obtain⟨k,hk,rfl,o0,HM,HB⟩:=hrel;have hB:Below w.heap.size w wr:=((Below.refl _ w).alloc lR _).trans (HB.out.mono (by omega));have P0:=hide hB;by_cases z0:k<n.ln
  ·have Q0:=h.la (by omega);have c0:=(h.below hB lR).f k z0;have c1:=(h.below hB lR).t k z0;have c2:=(h.below hB lR).e k z0;have bN:=(Blk.new w #[.int .i64 n.a.size,.slice n.a.B.ga n.a.B.t.len n.a.B.cap,.slice n.a.E.ga n.a.E.t.len n.a.E.cap,.int .i64 n.nodes,.slice n.la n.ln n.lc] 27).below HB.out (by omega);have n2:∀o,(wr.alloc o).cell? ⟨w.heap.size,2,none⟩=some (.slice n.a.E.ga n.a.E.t.len n.a.E.cap):=fun o=>(bN.alloc o).cell 2;have n3:∀o,(wr.alloc o).cell? ⟨w.heap.size,3,none⟩=some (.int .i64 n.nodes):=fun o=>(bN.alloc o).cell 3;go_wp2_with fail;go_at_call 90;refine(XB _ _ _).mono ?_;rintro e w' ⟨rfl,rfl⟩;have B0:Below w.heap.size w (wr.alloc (.cells #[.int .i64 (n.F k),.int .i64 (n.T k),.int .i64 (n.E k)] 81)):=hB.alloc hB.size _;have p0:=hide B0;have g0:Hid (n.net.linkErr k≠0->aB n.net.linkErr n.ln=n.net.linkErr k):=hide (fun F0=>nG z0 o0.out F0);by_cases hF:0<=n.F k/\n.F k<n.nodes;rotate_left
   ·have hb:(decide (0<=n.F k) && decide (n.F k<n.nodes))=false:=by simp;omega
    have d0:=hide ((g0.out (by rw[dC (n:=n.net) (k:=k) (Or.inl (by show n.F k<0\/n.nodes<=n.F k;omega))];decide)).trans (dC (n:=n.net) (k:=k) (Or.inl (by show n.F k<0\/n.nodes<=n.F k;omega))));rw[hb];clear hb hF hB B0;go_wp2;go_ret;exact⟨by rw[d0.out];rfl,p0.out⟩
   have hb:(decide (0<=n.F k) && decide (n.F k<n.nodes))=true:=by simp[hF]
   rw[hb];have HF:=hide hF;clear hb hF hB B0;go_wp2_with fail;go_at_call 90;refine(XB _ _ _).mono ?_;rintro e w' ⟨rfl,rfl⟩;by_cases hT:0<=n.T k/\n.T k<n.nodes;rotate_left
   ·have hb:(decide (0<=n.T k) && decide (n.T k<n.nodes))=false:=by simp;omega
    have d0:=hide ((g0.out (by rw[dC (n:=n.net) (k:=k) (Or.inr (Or.inl (by show n.T k<0\/n.nodes<=n.T k;omega)))];decide)).trans (dC (n:=n.net) (k:=k) (Or.inr (Or.inl (by show n.T k<0\/n.nodes<=n.T k;omega)))));rw[hb];clear hb hT;go_wp2;go_ret;exact⟨by rw[d0.out];rfl,p0.out⟩
   have hb:(decide (0<=n.T k) && decide (n.T k<n.nodes))=true:=by simp[hT]
   rw[hb];have HT:=hide hT;clear hb hT;go_wp2_with fail;go_at_call 90;refine(XB _ _ _).mono ?_;rintro e w' ⟨rfl,rfl⟩;by_cases hE:0<=n.E k/\n.E k<n.a.E.t.len;rotate_left
   ·have hb:(decide (0<=n.E k) && decide (n.E k<n.a.E.t.len))=false:=by simp;omega
    have d0:=hide ((g0.out (by rw[dC (n:=n.net) (k:=k) (Or.inr (Or.inr (by show n.E k<0\/(n.a.E.t.len:Int)<=n.E k;omega)))];decide)).trans (dC (n:=n.net) (k:=k) (Or.inr (Or.inr (by show n.E k<0\/(n.a.E.t.len:Int)<=n.E k;omega)))));rw[hb];clear hb hE;go_wp2;go_ret;exact⟨by rw[d0.out];rfl,p0.out⟩
   have hb:(decide (0<=n.E k) && decide (n.E k<n.a.E.t.len))=true:=by simp[hE]
   rw[hb];have C0:Hid (¬ ((n.net.F k<0\/n.net.nodes<=n.net.F k)\/(n.net.T k<0\/n.net.nodes<=n.net.T k)\/(n.net.E k<0\/(n.net.a.E.len:Int)<=n.net.E k))):=hide (by
    have h1:=HF.out;have h2:=HT.out;show ¬ ((n.F k<0\/n.nodes<=n.F k)\/(n.T k<0\/n.nodes<=n.T k)\/(n.E k<0\/(n.a.E.t.len:Int)<=n.E k));omega)
   clear hb hE;by_cases q0:n.F k=n.T k
   ·have i0:n.net.linkErr k=1:=by unfold Net.linkErr;rw[if_neg C0.out,if_pos (show n.net.F k=n.net.T k from q0)]
    have d0:=hide ((g0.out (by rw[i0];decide)).trans i0);have D0:(n.F k == n.T k)=true:=by simp[q0]
    clear q0 i0;go_wp2;go_ret;exact⟨by rw[d0.out];rfl,p0.out⟩
   have D0:(n.F k == n.T k)=false:=by simp[q0]
   have K0:=hide q0;clear q0;obtain⟨ks,G0,es,u0,hC,j0⟩:=HM.out;have wF:(Lit.int .i64 (n.F k)).wf=true:=RU HF.out.1 HF.out.2 (by omega);have wT:(Lit.int .i64 (n.T k)).wf=true:=RU HT.out.1 HT.out.2 (by omega);obtain⟨l,hl⟩:=gT wF wT;have x0:=(hC.alloc (.cells #[.int .i64 (n.F k),.int .i64 (n.T k),.int .i64 (n.E k)] 81)).alloc (.cells #[.int .i64 (n.F k),.int .i64 (n.T k)] 128);have h0:=x0.look JF Tryz.underlying125 hl;have E0:=p0.out.alloc p0.out.size (.cells #[.int .i64 (n.F k),.int .i64 (n.T k)] 128);have hc:=j0 (n.F k) (n.T k);by_cases s0:(List.range k).any (fun j=>n.F j == n.F k && n.T j == n.T k)=true
   ·rw[if_pos s0]at hc;rw[hc]at h0;have i0:n.net.linkErr k=6:=by unfold Net.linkErr;rw[if_neg C0.out,if_neg (show ¬ n.net.F k=n.net.T k from K0.out),if_pos (show n.net.twice k=true from s0)]
    have d0:=hide ((g0.out (by rw[i0];decide)).trans i0);have R0:=hide E0;clear i0 s0 hc j0 E0 hC x0;unfold YE at h0;go_wp2;go_ret;exact⟨by rw[d0.out];rfl,R0.out⟩
   rw[if_neg s0]at hc;have y0:SC 128 ks G0 (w.heap.size+1) (World.drew ((wr.alloc (.cells #[.int .i64 (n.F k),.int .i64 (n.T k),.int .i64 (n.E k)] 81)).alloc (.cells #[.int .i64 (n.F k),.int .i64 (n.T k)] 128))) es u0:=x0.keep rfl;have k0:=y0.look JF Tryz.underlying125 hl;obtain⟨st,S0,V0,f0,H0,I0,O0,v0⟩:=y0.entry JF Tryz.underlying125 hl;have m0:=O0.look JF Tryz.underlying125 hl;obtain⟨J0,W0,w0⟩:=v0 1;have i0:n.net.linkErr k=0:=by unfold Net.linkErr;rw[if_neg C0.out,if_neg (show ¬ n.net.F k=n.net.T k from K0.out),if_neg (show ¬ n.net.twice k=true from s0)]
   rw[hc]at h0 k0 m0 H0;have L0:Hid (Met n (k+1) (w.heap.size+1) (ChangeMaps.setBlock (World.drew ((wr.alloc (.cells #[.int .i64 (n.F k),.int .i64 (n.T k),.int .i64 (n.E k)] 81)).alloc (.cells #[.int .i64 (n.F k),.int .i64 (n.T k)] 128))) (w.heap.size+1) (.map J0 f0))):=hide (by
    classical
    refine⟨S0,fun v=>if v=YE (n.F k) (n.T k) then 1 else G0 v,J0,f0,w0 _ (fun u hu=>by simp[hu]) (by simp),fun f t=>?_⟩;show (if YE f t=YE (n.F k) (n.T k) then 1 else G0 (YE f t))=_;rw[j0 f t];by_cases e:YE f t=YE (n.F k) (n.T k)
    ·obtain⟨rfl,rfl⟩:=aR e;simp[List.range_succ]
    ·rw[if_neg e];have F0:(n.F k == f && n.T k == t)=false:=by
      rw[Bool.eq_false_iff];intro hx;simp at hx;exact e (by rw[hx.1,hx.2])
     rw[List.range_succ,List.any_append];simp[F0])
   have M0:Hid (Below (w.heap.size+1) (w.alloc (.cells #[.int .i64 n.a.size,.slice n.a.B.ga n.a.B.t.len n.a.B.cap,.slice n.a.E.ga n.a.E.t.len n.a.E.cap,.int .i64 n.nodes,.slice n.la n.ln n.lc] 27)) (ChangeMaps.setBlock (World.drew ((wr.alloc (.cells #[.int .i64 (n.F k),.int .i64 (n.T k),.int .i64 (n.E k)] 81)).alloc (.cells #[.int .i64 (n.F k),.int .i64 (n.T k)] 128))) (w.heap.size+1) (.map J0 f0))):=hide ((below_drewN ((HB.out.alloc (by have:=HB.out.size;simp at this;omega) _).alloc (by have:=HB.out.size;simp at this |-;omega) _) 1).grown (y0.grown _) (by have:=HB.out.size;simp at this |-;omega) (fun j hj=>by cases hj;exact lR));have N0:Hid (∀r,r<k+1->n.net.linkErr r=0):=hide (fun r hr=>by
    by_cases e:r=k
    ·subst e;exact i0
    ·exact o0.out r (by omega))
   clear i0 s0 hc j0 E0 hC x0 y0 O0 v0 w0 I0;unfold YE at *;go_wp2_with fail
   go_region
   go_wp2;go_roundw
   case rel =>
    first
    | exact⟨k+1,by omega,by go_num,N0,L0,M0⟩
    | (rw[<-Q0];(repeat apply Exists.intro);refine⟨?_,rfl⟩;exact⟨k+1,by omega,by go_num,N0,L0,M0⟩)
   case measure=>simp[intOf];omega
  ·have U0:k=n.ln:=by omega
   have d0:=hide (jC.2 (fun r (hr:r<n.ln)=>o0.out r (by omega)));clear hB;go_wp2;go_ret;exact⟨by rw[d0.out];rfl,P0.out⟩
theorem zD (n:dA)(w:World)(h:n.In w.heap.size w):
 Calls Tryz.prog 24 #[n.val] w fun e w'=>e=.returned (.int .i64 n.net.check)/\Below w.heap.size w w':=by
 have h0:Below w.heap.size w (w.alloc (.cells n.cells 27)):=(Below.refl _ w).alloc lR _;have b0:=Blk.new w n.cells 27;have HL:=hide (RS n.a _ ((h.a.below h0 lR).mono h0.size));have d0:Hid (n.net.check=if n.a.alg.check≠0 then n.a.alg.check else if (n.a.alg.tell [1,2,3,4,5,6,7]).law≠0 then 4
  else if n.nodes<1\/6<n.nodes then 3 else aB n.net.linkErr n.ln):=hide rfl
 generalize n.a.alg.tell [1,2,3,4,5,6,7]=fb at *;generalize n.a.alg.check=ck at *;simp only[dA.val,dA.cells,xA.val,Mat.val]at *;go_enter Tryz.func24,Tryz.ntmps24;go_wp2_with fail;go_at_call 61;refine HL.out.mono ?_;rintro e w1 ⟨rfl,k0⟩;have i0:=h0.trans (k0.mono h0.size);have b1:=b0.below k0 b0.lt;obtain⟨fl,fa,m0,fc,fe⟩:=fb;simp only[Brk.val];have g0:=i0.alloc i0.size (.cells #[.int .i64 fl,.int .i64 fa,.int .i64 m0,.int .i64 fc,.int .i64 fe] 98);have b2:=b1.alloc (.cells #[.int .i64 fl,.int .i64 fa,.int .i64 m0,.int .i64 fc,.int .i64 fe] 98);by_cases hc:ck=0
 ·subst hc;by_cases hn:fl=0
  ·subst hn;have x0:=b2.cell 0;have x1:=b2.cell 1;have x2:=b2.cell 2;have x3:=b2.cell 3;have x4:=b2.cell 4;simp at x0 x1 x2 x3 x4;by_cases o0:n.nodes<1
   ·have f0:Hid (n.net.check=3):=hide (by rw[d0.out];simp[o0]);clear d0;go_wp2;go_ret;exact⟨by rw[f0.out];rfl,g0⟩
   by_cases p0:6<n.nodes
   ·have f0:Hid (n.net.check=3):=hide (by rw[d0.out];simp[p0]);clear d0;go_wp2;go_ret;exact⟨by rw[f0.out];rfl,g0⟩
   have f0:Hid (n.net.check=aB n.net.linkErr n.ln):=hide (by rw[d0.out];simp[o0,p0]);have HC:=hide (aK n _ (h.grown g0) (by omega) (by omega));have j0:=hide g0;simp only[dA.val,dA.cells,Mat.val]at HC;clear d0 g0;go_wp2_with fail;go_at_call 62;refine HC.out.mono ?_;rintro e w3 ⟨rfl,q0⟩;go_wp2;go_ret;exact⟨by rw[f0.out];rfl,j0.out.trans (q0.mono j0.out.size)⟩
  ·have f0:Hid (n.net.check=4):=hide (by rw[d0.out];simp[hn]);have:(fl != 0)=true:=by simp[hn]
   clear d0 hn;go_wp2;go_ret;exact⟨by rw[f0.out];rfl,g0⟩
 ·have f0:Hid (n.net.check=ck):=hide (by rw[d0.out];simp[hc]);have:(ck != 0)=true:=by simp[hc]
  clear d0 hc;go_wp2;go_ret;exact⟨by rw[f0.out];rfl,g0⟩
theorem WM (t:Tab)(s:Int):((List.range t.len).any fun r=>!jB (t.L r) (t.Z r) s) = !t.routes s:=by
 cases hr:t.routes s with
 | true =>
  have h:=(t.routes_iff s).1 hr;rw[Bool.not_true,List.any_eq_false];intro r d0;rw[sD.2 (fun c hc=>h r (List.mem_range.1 d0) c hc)];decide
 | false =>
  rw[Bool.not_false,List.any_eq_true];apply Classical.byContradiction;intro hn;have:t.routes s=true:=(t.routes_iff s).2 fun r h1 c h2=>by
   have:jB (t.L r) (t.Z r) s=true:=by
    cases e:jB (t.L r) (t.Z r) s with
    | true=>rfl
    | false=>exact absurd ⟨r,List.mem_range.2 h1,by rw[e];rfl⟩ hn
   exact sD.1 this c h2
  rw[this]at hr;cases hr
theorem LP (args:Array Value)(W:World):(callFunc 72 args).run Tryz.prog W=.ok (.enter 72 args) W:=by rfl
theorem bT (a:Option Addr)(l q b o bx:Nat)(f:Nat->Int)(s:Int)(w:World)(h:Ints a l b o f w)(hb:0<l->b<w.heap.size)(hx:w.cell? ⟨bx,0,none⟩=some (.int .i64 s)):
 Calls Tryz.prog 72 #[.slice a l q,.pointer (some ⟨bx,0,none⟩)] w fun e w'=>e=.returned (.bool (!jB l f s))/\Below w.heap.size w w':=by
 have HS:=hide (eD a l q b o f s w h hb);generalize jB l f s=v at HS |-;clear h hb;go_enter Tryz.func72,Tryz.ntmps72;go_wp2_with fail;go_at_call 73;refine HS.out.mono ?_;rintro e w1 ⟨rfl,d0⟩;have HB:=hide d0;clear d0;go_wp2;go_ret;exact⟨rfl,HB.out⟩
theorem BF (n:dA)(x:Mat)(w:World)(h:n.In w.heap.size w)(hx:x.In w.heap.size w):
 Calls Tryz.prog 37 #[n.val,x.val] w fun e w'=>e=.returned (.int .i64 (n.net.fit x.t))/\Below w.heap.size w w':=by
 have j0:Below w.heap.size w (w.alloc (.cells n.cells 27)):=(Below.refl _ w).alloc lR _;have b0:=Blk.new w n.cells 27;have HC:=hide (zD n _ (h.grown j0));have f0:Hid (n.net.fit x.t=if n.net.check=0 then (if (x.t.len:Int)≠n.nodes\/x.t.wide n.nodes=false then 1 else if x.t.routes n.a.size=false then 5 else 0) else n.net.check):=hide rfl;generalize n.net.check=ck at *;have HS:=hide (fun W (hb:Below w.heap.size w W)=>BO x n.nodes W (hx.grown hb));have HA:=hide (fun W (hb:Below w.heap.size w W) (b1:Blk W w.heap.size n.cells 27)=>QC 72 #[.pointer (some ⟨w.heap.size,0,none⟩)] x (fun r=>!jB (x.t.L r) (x.t.Z r) n.a.size) W ((hx.below hb lR).mono hb.size) LP (fun i W' hi hB=>by
  have hI:=hx.below (hb.trans (hB.mono hb.size)) lR;exact bT (x.A i) (x.t.L i) (x.C i) (x.RB i) (x.RO i) w.heap.size (x.t.Z i) n.a.size W' (hI.ints hi) (fun h0=>by have:=(hI.addr i hi h0).2;have:=hb.size;have:=hB.size;omega) ((b1.below hB b1.lt).cell 0)))
 have m0:=hide (WM x.t n.a.size);simp only[dA.val,dA.cells,Mat.val]at *;go_enter Tryz.func37,Tryz.ntmps37;go_wp2_with fail;go_at_call 24;refine HC.out.mono ?_;rintro e w1 ⟨rfl,u0⟩;have g0:=j0.trans (u0.mono j0.size);have b1:=b0.below u0 b0.lt;have x0:=b1.cell 0;have x3:=b1.cell 3;simp at x0 x3;by_cases hc:ck=0
 ·subst hc;have y0:=hide (HS.out w1 g0);clear HS HC;go_wp2_with fail;go_at_call 71;refine y0.out.mono ?_;rintro e w2 ⟨rfl,v0⟩;have o0:=g0.trans (v0.mono g0.size);have b2:=b1.below v0 b1.lt;have x0:=b2.cell 0;have x3:=b2.cell 3;simp at x0 x3;have p0:=hide (HA.out w2 o0 b2);have g0:=o0;clear HA;cases hs:((x.t.len:Int) == n.nodes) && x.t.wide n.nodes with
  | false =>
   have d0:Hid (n.net.fit x.t=1):=hide (by
    rw[f0.out,if_pos (by first | rfl | trivial),if_pos];rcases Bool.and_eq_false_iff.1 hs with e | e
    ·exact Or.inl (by simpa using e)
    ·exact Or.inr e)
   clear f0 hs;go_wp2;go_ret;exact⟨by rw[d0.out];rfl,g0⟩
  | true =>
   have q0:¬ ((x.t.len:Int)≠n.nodes\/x.t.wide n.nodes=false):=by
    rw[Bool.and_eq_true,beq_iff_eq]at hs;simp[hs.1,hs.2]
   have i0:Hid (n.net.fit x.t=if x.t.routes n.a.size=false then 5 else 0):=hide (by rw[f0.out,if_pos (by first | rfl | trivial),if_neg q0]);clear f0 hs q0;go_wp2_with fail;go_at_call 74;refine p0.out.mono ?_;rintro e w3 ⟨rfl,w0⟩;rw[m0.out];have s0:=hide (g0.trans (w0.mono g0.size));clear w0 p0 m0;by_cases hr:x.t.routes n.a.size=true
   ·have d0:Hid (n.net.fit x.t=0):=hide (by rw[i0.out,hr];rfl);rw[hr];clear i0 hr;go_wp2;go_ret;exact⟨by rw[d0.out];rfl,s0.out⟩
   ·have k0:x.t.routes n.a.size=false:=by simpa using hr
    have d0:Hid (n.net.fit x.t=5):=hide (by rw[i0.out,k0];rfl);rw[k0];clear i0 hr k0;go_wp2;go_ret;exact⟨by rw[d0.out];rfl,s0.out⟩
 ·have d0:Hid (n.net.fit x.t=ck):=hide (by rw[f0.out,if_neg hc]);have:(ck != 0)=true:=by simp[hc]
  clear f0 hc HS HA HC;go_wp2;go_ret;exact⟨by rw[d0.out];rfl,g0⟩
end Go.Proofs.YtjhkadffaephmacGreat
