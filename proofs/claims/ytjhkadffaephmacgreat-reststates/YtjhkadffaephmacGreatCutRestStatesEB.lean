import Derived.SizedLaws
import Derived.Test.YtjhkadffaephmacGreatCutRestStatesCB
import Derived.Carry
namespace Go.Proofs.YtjhkadffaephmacGreat
set_option maxHeartbeats 16000000
set_option maxRecDepth 100000
open Go.RowKit Go.ChangeShapes Go.WideShapes Go.Joins Go.Deep
theorem Tryz.cells37:Tryz.prog.cellsOf 37=4:=by kernel_rfl
theorem Tryz.bytes37:Tryz.prog.bytesOf 37=64:=by kernel_rfl
theorem Tryz.cells35:Tryz.prog.cellsOf 35=1:=by kernel_rfl
theorem xE {H:Type}{P:Program}{e:TypeId}:∀ {ds:List (DataW H)} {d:DataW H},d∈ds->∀n∈d.weights P e,n∈DataW.weightsAll P e ds
 | [],_,h,_,_=>by cases h
 | d0 :: ds,d,h,n,hn=>by
  simp only[DataW.weightsAll,List.mem_append];rcases List.mem_cons.1 h with rfl | h
  ·exact Or.inl hn
  ·exact Or.inr (xE h n hn)
section
variable {H:Type} {enc:TypeId×Value->H} {W:World}
theorem OI:∀ (n:Nat) (cs:List Value) (y:DataW H×List MemPlace),DataW.trod enc Tryz.prog W 0 (fun _=>true) true n 37 cs=some y ->
 (y.1.weights Tryz.prog 37).all (·<=reachBytes)=true->∃p:fA,cs=p.head.cells.toList/\p.In W.heap.size W:=by
 intro n
 induction n using Nat.strongRecOn with
 | _ n ih =>
  intro cs y h hw;obtain⟨xs,n1,rfl,rfl,p0,o0,i0⟩:=DataW.trod_struct Tryz.underlying37 h;rw[Tryz.cells37]at p0
  match cs,p0,xs,o0 with
  | [c0,c1,c2,c3],_,[y0,y1,y2,y3],_ =>
   have k0:=i0 0 _ rfl;have k1:=i0 1 _ rfl;have k2:=i0 2 _ rfl;have k3:=i0 3 _ rfl;simp[Tryz.cells3,Tryz.cells32,Tryz.cells35]at k0 k1 k2 k3;obtain⟨a0,e0,_,w0⟩:=DataW.trod_int Tryz.underlying3 k0;obtain⟨a1,e1,_,w1⟩:=DataW.trod_int Tryz.underlying3 k1;simp at e0 e1;subst e0 e1;have hE:∃ (eg:Option Addr) (en ec eb eo:Nat) (ev:Nat->Int),c2=.slice eg en ec/\(0<en->eg=some ⟨eb,eo,none⟩)/\(0<en->eb<W.heap.size)/\(∀i,i<en->W.cell? ⟨eb,eo+i,none⟩=some (.int .i64 (ev i)))/\en<=maxLen:=by
    rcases open_ints Tryz.underlying32 Tryz.underlying3 Tryz.cells3 k2 with ⟨hcs,_⟩ | ⟨a,len,cap,zs,hcs,_,hl,hm,hz,_,hcell,_⟩
    ·simp at hcs;exact⟨none,0,0,0,0,fun _=>0,hcs,fun h=>absurd h nZ,fun h=>absurd h nZ,fun _ h=>absurd h nZ,zL⟩
    ·simp at hcs;simp only[if_true]at hz;obtain⟨gb,go,gs⟩:=a;rcases Nat.eq_zero_or_pos len with hl0 | hlp
     ·subst hl0;exact⟨_,0,cap,0,0,fun _=>0,hcs,fun h=>absurd h nZ,fun h=>absurd h nZ,fun _ h=>absurd h nZ,zL⟩
     ·have j0:gs=none:=by simpa [Addr.add] using World.cell?_spot (hcell 0 (by omega))
      subst j0;have hc:∀i,i<len->W.cell? ⟨gb,go+i,none⟩=some (.int .i64 (zs.getD i 0)):=fun i hi=>by rw[<-add_plain];exact hcell i (by omega)
      exact⟨_,len,cap,gb,go,fun i=>zs.getD i 0,hcs,fun _=>rfl,fun _=>World.block_lt_of_cell? _ _ (hc 0 hlp),hc,by omega⟩
   obtain⟨eg,en,ec,eb,eo,ev,rfl,q1,q2,q3,q4⟩:=hE;have hP:∃ (pg:Option Addr) (pn pc pb po:Nat) (sub:Nat->fA),c3=.slice pg pn pc/\(0<pn->pg=some ⟨pb,po,none⟩)/\(0<pn->pb<W.heap.size)/\pn*64<=140737488355328 /\
    ∀i,i<pn->(sub i).head.At pb (po+i*4) W/\(sub i).In W.heap.size W:=by
    rcases DataW.trod_slice Tryz.underlying35 k3 with ⟨hcs,_⟩ | ⟨a,len,cap,elems,rest,n2,hn,hcs,hy,_,hl,hm,hel,hat,hsp,_⟩
    ·simp at hcs;exact⟨none,0,0,0,0,fun _=>.no,hcs,fun h=>absurd h nZ,fun h=>absurd h nZ,by omega,fun _ h=>absurd h nZ⟩
    ·simp at hcs;obtain⟨gb,go,gs⟩:=a;have h0:((DataW.slice (elems.map (·.1)) (rest.map (·.1)):DataW H).weights Tryz.prog 35).all (·<=reachBytes)=true:=by
      rw[List.all_eq_true]at hw |-;intro k hk;refine hw k ?_;simp only[DataW.weights,Tryz.underlying37];refine DataW.weights_mem_each (j:=3) (t:=35) (d:=y3.1) rfl rfl k ?_;rw[hy];exact hk
     have q0:len*64<=reachBytes:=by
      rw[List.all_eq_true]at h0;have:=h0 ((elems.length+rest.length)*Tryz.prog.bytesOf 37) (by simp[DataW.weights,Tryz.underlying35]);rw[Tryz.bytes37]at this;have:=of_decide_eq_true this;omega
     have m0:len*64<=140737488355328:=by
      have:reachBytes=140737488351232:=rfl;omega
     rcases Nat.eq_zero_or_pos len with hl0 | hlp
     ·subst hl0;exact⟨_,0,cap,0,0,fun _=>.no,hcs,fun h=>absurd h nZ,fun h=>absurd h nZ,by omega,fun _ h=>absurd h nZ⟩
     ·have f0:∀i,i<len->∃d0,W.cells? 0 ((⟨gb,go,gs⟩:Addr).add (i*4)) 4=some d0/\∃p:fA,d0=p.head.cells.toList/\p.In W.heap.size W:=fun i hi=>by
       have:=hat i hi;rw[Tryz.cells37,List.getElem?_eq_getElem (by omega)]at this;obtain⟨d0,h1,h2⟩:=Option.bind_eq_some_iff.1 this;refine⟨d0,h1,ih n2 (by omega) d0 _ h2 ?_⟩;rw[List.all_eq_true]at h0 |-;intro k hk;refine h0 k ?_;simp only[DataW.weights,Tryz.underlying35];refine List.mem_cons_of_mem _ (List.mem_append_left _ (xE ?_ k hk));exact List.mem_map.2 ⟨elems[i],List.getElem_mem _,rfl⟩
      have j0:gs=none:=by
       obtain⟨d0,h1,p,h2,_⟩:=f0 0 hlp;have:=(World.cells?_some h1).2.2 0 (by omega);rw[h2]at this;simpa [Addr.add] using World.cell?_spot this
      subst j0
      haveI:Inhabited fA:=⟨.no⟩
      obtain⟨sub,g0⟩:=choose_lt (α:=fA) (n:=len) (p:=fun i p=>p.head.At gb (go+i*4) W/\p.In W.heap.size W) (fun i hi=>by
       obtain⟨d0,h1,p,h2,h3⟩:=f0 i hi;obtain⟨_,_,hc⟩:=World.cells?_some h1;rw[add_plain]at hc;have g:∀j,j<4->W.cell? ⟨gb,go+i*4+j,none⟩=p.head.cells.toList[j]?:=fun j hj=>by rw[<-add_plain,<-h2];exact hc j hj
       exact⟨p,⟨g 0 (by omega),g 1 (by omega),g 2 (by omega),g 3 (by omega)⟩,h3⟩)
      exact⟨_,len,cap,gb,go,sub,hcs,fun _=>rfl,fun _=>World.block_lt_of_cell? _ _ (g0 0 hlp).1.c0,m0,g0⟩
   obtain⟨pg,pn,pc,pb,po,sub,rfl,r1,r2,r3,r4⟩:=hP;exact⟨.mk ⟨a0,a1,eg,en,ec,eb,eo,ev,pg,pn,pc,pb,po⟩ sub,rfl,⟨w0,w1,q1,q2,q3,q4,r1,r2,r3⟩,r4⟩
theorem GQ {b0:Nat}{v:Value}{d:DataW H}{p:List MemPlace}(hv:Value.okWide Tryz.prog W .any b0 37 v)(h:DataW.Trod enc Tryz.prog W 0 (fun _=>true) true 37 v d p)
 (hw:(d.weights Tryz.prog 37).all (·<=reachBytes)=true):∃q:fA,v=q.head.val/\q.In W.heap.size W:=by
 obtain⟨cs,rfl,f0⟩:=okWide_struct Tryz.underlying37 hv;obtain⟨d0,hf⟩:=h;obtain⟨q,h1,h2⟩:=OI d0 _ (d,p) hf hw;refine⟨q,?_,h2⟩;have e:cs.toList=q.head.cells.toList:=h1;have:=Array.toList_inj.1 e;rw[this];rfl
end
theorem Tryz.cells27:Tryz.prog.cellsOf 27=5:=by kernel_rfl
theorem Tryz.cells81:Tryz.prog.cellsOf 81=3:=by kernel_rfl
theorem Tryz.cells25:Tryz.prog.cellsOf 25=1:=by kernel_rfl
section
variable {H:Type} {enc:TypeId×Value->H} {W:World}
theorem IJ {n:Nat}{cs:List Value}{y:DataW H×List MemPlace}(h:DataW.trod enc Tryz.prog W 0 (fun _=>true) true n 24 cs=some y):
 ∃a:xA,cs=[.int .i64 a.size,a.B.val,a.E.val]/\a.In W.heap.size W:=by
 obtain⟨xs,n1,rfl,rfl,g0,d0,f0⟩:=DataW.trod_struct Tryz.underlying24 h;rw[Tryz.cells24]at g0
 match cs,g0,xs,d0 with
 | [c0,c1,c2],_,[y0,y1,y2],_ =>
  have k0:=f0 0 _ rfl;have k1:=f0 1 _ rfl;have k2:=f0 2 _ rfl;simp[Tryz.cells3,Tryz.cells22]at k0 k1 k2;obtain⟨s,e0,_,_⟩:=DataW.trod_int Tryz.underlying3 k0;simp at e0;subst e0;obtain⟨B,rfl,hB⟩:=tH k1;obtain⟨E,rfl,hE⟩:=tH k2;exact⟨⟨s,B,E⟩,rfl,hB,hE⟩
theorem QI {n:Nat}{cs:List Value}{y:DataW H×List MemPlace}(h:DataW.trod enc Tryz.prog W 0 (fun _=>true) true n 81 cs=some y):
 ∃f t e:Int,cs=[.int .i64 f,.int .i64 t,.int .i64 e]:=by
 obtain⟨xs,n1,rfl,rfl,g0,d0,f0⟩:=DataW.trod_struct Tryz.underlying81 h;rw[Tryz.cells81]at g0
 match cs,g0,xs,d0 with
 | [c0,c1,c2],_,[y0,y1,y2],_ =>
  have k0:=f0 0 _ rfl;have k1:=f0 1 _ rfl;have k2:=f0 2 _ rfl;simp[Tryz.cells3]at k0 k1 k2;obtain⟨a0,e0,_,_⟩:=DataW.trod_int Tryz.underlying3 k0;obtain⟨a1,e1,_,_⟩:=DataW.trod_int Tryz.underlying3 k1;obtain⟨a2,e2,_,_⟩:=DataW.trod_int Tryz.underlying3 k2;simp at e0 e1 e2;subst e0 e1 e2;exact⟨a0,a1,a2,rfl⟩
theorem jP {n:Nat}{v:Value}{y:DataW H×List MemPlace}(h:DataW.trod enc Tryz.prog W 0 (fun _=>true) true n 25 [v]=some y):
 ∃ (la:Option Addr) (ln lc lb lo:Nat) (F T E:Nat->Int),v=.slice la ln lc/\(0<ln->la=some ⟨lb,lo,none⟩)/\(0<ln->lb<W.heap.size) /\
  (∀i,i<ln->W.cell? ⟨lb,lo+i*3,none⟩=some (.int .i64 (F i)))/\(∀i,i<ln->W.cell? ⟨lb,lo+i*3+1,none⟩=some (.int .i64 (T i)))/\(∀i,i<ln->W.cell? ⟨lb,lo+i*3+2,none⟩=some (.int .i64 (E i)))/\ln<=maxLen:=by
 rcases DataW.trod_slice Tryz.underlying25 h with ⟨hcs,_⟩ | ⟨a,len,cap,elems,rest,n2,hn,hcs,hy,_,hl,hm,hel,hat,hsp,_⟩
 ·simp at hcs;exact⟨none,0,0,0,0,fun _=>0,fun _=>0,fun _=>0,hcs,fun h=>absurd h nZ,fun h=>absurd h nZ,fun _ h=>absurd h nZ,fun _ h=>absurd h nZ,fun _ h=>absurd h nZ,zL⟩
 ·simp at hcs;obtain⟨gb,go,gs⟩:=a;rcases Nat.eq_zero_or_pos len with hl0 | hlp
  ·subst hl0;exact⟨_,0,cap,0,0,fun _=>0,fun _=>0,fun _=>0,hcs,fun h=>absurd h nZ,fun h=>absurd h nZ,fun _ h=>absurd h nZ,fun _ h=>absurd h nZ,fun _ h=>absurd h nZ,zL⟩
  ·have f0:∀i,i<len->∃d0,W.cells? 0 ((⟨gb,go,gs⟩:Addr).add (i*3)) 3=some d0/\∃f t e:Int,d0=[.int .i64 f,.int .i64 t,.int .i64 e]:=fun i hi=>by
    have:=hat i hi;rw[Tryz.cells81,List.getElem?_eq_getElem (by omega)]at this;obtain⟨d0,h1,h2⟩:=Option.bind_eq_some_iff.1 this;exact⟨d0,h1,QI h2⟩
   have g0:gs=none:=by
    obtain⟨d0,h1,f,t,e,h2⟩:=f0 0 hlp;have:=(World.cells?_some h1).2.2 0 (by omega);rw[h2]at this;simpa [Addr.add] using World.cell?_spot this
   subst g0;obtain⟨P,hP⟩:=choose_lt (α:=Int×Int×Int) (n:=len) (p:=fun i p=>W.cell? ⟨gb,go+i*3,none⟩=some (.int .i64 p.1)/\W.cell? ⟨gb,go+i*3+1,none⟩=some (.int .i64 p.2.1)/\W.cell? ⟨gb,go+i*3+2,none⟩=some (.int .i64 p.2.2)) (fun i hi=>by
    obtain⟨d0,h1,f,t,e,h2⟩:=f0 i hi;obtain⟨_,_,hc⟩:=World.cells?_some h1;rw[add_plain]at hc;have g:∀j,j<3->W.cell? ⟨gb,go+i*3+j,none⟩=[Value.int .i64 f,.int .i64 t,.int .i64 e][j]?:=fun j hj=>by rw[<-add_plain,<-h2];exact hc j hj
    exact⟨(f,t,e),g 0 (by omega),g 1 (by omega),g 2 (by omega)⟩)
   exact⟨_,len,cap,gb,go,fun i=>(P i).1,fun i=>(P i).2.1,fun i=>(P i).2.2,hcs,fun _=>rfl,fun _=>World.block_lt_of_cell? _ _ (hP 0 hlp).1,fun i hi=>(hP i hi).1,fun i hi=>(hP i hi).2.1,fun i hi=>(hP i hi).2.2,by omega⟩
theorem yS {b0:Nat}{v:Value}{d:DataW H}{p:List MemPlace}(hv:Value.okWide Tryz.prog W .any b0 27 v)(h:DataW.Trod enc Tryz.prog W 0 (fun _=>true) true 27 v d p):
 ∃n:dA,v=n.val/\n.In W.heap.size W:=by
 obtain⟨cs,rfl,g0⟩:=okWide_struct Tryz.underlying27 hv;obtain⟨h0,hf⟩:=h;obtain⟨xs,n1,_,_,i0,d0,f0⟩:=DataW.trod_struct Tryz.underlying27 hf;obtain⟨c0,c1,c2,c3,c4,rfl⟩:=PU (g0.trans Tryz.cells27)
 match xs,d0 with
 | [y0,y1,y2],_ =>
  have k0:=f0 0 _ rfl;have k1:=f0 1 _ rfl;have k2:=f0 2 _ rfl;simp[Value.cells,Tryz.cells3,Tryz.cells24,Tryz.cells25]at k0 k1 k2;obtain⟨a,ea,hA⟩:=IJ k0;obtain⟨s,e1,_,_⟩:=DataW.trod_int Tryz.underlying3 k1;simp at e1 ea;obtain⟨rfl,rfl,rfl⟩:=ea;subst e1;obtain⟨la,ln,lc,lb,lo,F,T,E,rfl,q1,q2,q3,q4,q5,q6⟩:=jP k2;exact⟨⟨a,s,la,ln,lc,lb,lo,F,T,E⟩,rfl,hA,q1,q2,q3,q4,q5,q6⟩
theorem iP {b0:Nat}{v:Value}{d:DataW H}{p:List MemPlace}(hv:Value.okWide Tryz.prog W .any b0 22 v)(h:DataW.Trod enc Tryz.prog W 0 (fun _=>true) true 22 v d p):
 ∃m:Mat,v=m.val/\m.In W.heap.size W:=by
 obtain⟨a,l,c,rfl⟩:=okWide_slice Tryz.underlying22 hv;obtain⟨d0,hf⟩:=h;exact tH hf
end
theorem Tryz.bytes3:Tryz.prog.bytesOf 3=8:=by kernel_rfl
section
variable {H:Type} {enc:TypeId×Value->H} {W:World}
end
theorem Tryz.bytes32:Tryz.prog.bytesOf 32=24:=by kernel_rfl
section
variable {H:Type} {enc:TypeId×Value->H} {W:World}
theorem dI {n:Nat}{y:DataW H×List MemPlace}{m:Mat}(h:DataW.trod enc Tryz.prog W 0 (fun _=>true) true n 22 [m.val]=some y)(hw:(y.1.weights Tryz.prog 22).all (·<=reachBytes)=true)(hm:m.In W.heap.size W):m.Small:=by
 have:reachBytes=140737488351232:=rfl;rcases DataW.trod_slice Tryz.underlying22 h with ⟨hcs,_⟩ | ⟨a,len,cap,elems,rest,n2,hn,hcs,hy,_,hl,hmx,hel,hat,_,_⟩
 ·have h0:m.t.len=0:=by simp[Mat.val]at hcs;exact hcs.2.1
  exact⟨by omega,fun r hr'=>by omega⟩
 ·simp only[Mat.val,List.cons.injEq,Value.slice.injEq,and_true]at hcs;obtain⟨e1,e2,e3⟩:=hcs;rw[hy,List.all_eq_true]at hw;have hb:=of_decide_eq_true (hw ((elems.length+rest.length)*Tryz.prog.bytesOf 32) (by simp[DataW.weights,Tryz.underlying22]));rw[Tryz.bytes32]at hb;refine⟨by omega,fun r hr'=>?_⟩;have h1:=hat r (by omega);rw[Tryz.cells32,List.getElem?_eq_getElem (by omega)]at h1;obtain⟨m0,h2,h3⟩:=Option.bind_eq_some_iff.1 h1;have f0:=hm.ga (by omega);rw[e1]at f0;obtain rfl:=Option.some.inj f0;obtain⟨_,j0,k0⟩:=World.cells?_some h2;have d0:=hm.row r hr';have g0:=k0 0 (by omega);rw[add_plain,add_plain,Nat.mul_one,Nat.add_zero,d0]at g0;obtain⟨c,rfl⟩:=List.length_eq_one_iff.1 j0;obtain rfl:Value.slice (m.A r) (m.t.L r) (m.C r)=c:=by simpa using g0
  rcases DataW.trod_slice Tryz.underlying32 h3 with ⟨hcs2,_⟩ | ⟨a2,len2,cap2,elems2,rest2,n3,_,hcs2,hy2,_,_,_,hel2,_⟩
  ·have h0:m.t.L r=0:=by simp at hcs2;exact hcs2.2.1
   omega
  ·simp only[List.cons.injEq,Value.slice.injEq,and_true]at hcs2;have i0:=of_decide_eq_true (hw ((elems2.length+rest2.length)*Tryz.prog.bytesOf 3) (by
    simp only[DataW.weights,Tryz.underlying22];refine List.mem_cons_of_mem _ (List.mem_append_left _ (xE (d:=(elems[r]'(by omega)).1) (List.mem_map.2 ⟨elems[r]'(by omega),List.getElem_mem _,rfl⟩) _ ?_));rw[hy2];simp[DataW.weights,Tryz.underlying32]))
   rw[Tryz.bytes3]at i0;omega
theorem MQ {v:Value}{d:DataW H}{p:List MemPlace}(h:DataW.Trod enc Tryz.prog W 0 (fun _=>true) true 27 v d p)(hw:(d.weights Tryz.prog 27).all (·<=reachBytes)=true){n:dA}(e:v=n.val)(hn:n.In W.heap.size W):n.a.B.Small/\n.a.E.Small:=by
 subst e;obtain⟨i0,hf⟩:=h;obtain⟨xs,n1,rfl,hy,o0,d0,j0⟩:=DataW.trod_struct Tryz.underlying27 hf
 match xs,d0 with
 | [y0,y1,y2],_ =>
  have k0:=j0 0 _ rfl;simp[dA.val,dA.cells,Value.cells,Tryz.cells24]at k0;have hd:d=.agg [y0.1,y1.1,y2.1]:=by have:=congrArg Prod.fst hy;simpa using this
  obtain⟨zs,n3,rfl,hz,p0,m0,h0⟩:=DataW.trod_struct Tryz.underlying24 k0
  match zs,m0 with
  | [z0,z1,z2],_ =>
   have j1:=h0 1 _ rfl;have j2:=h0 2 _ rfl;simp[Tryz.cells22]at j1 j2;have f0:y0.1=.agg [z0.1,z1.1,z2.1]:=by have:=congrArg Prod.fst hz;simpa using this
   rw[List.all_eq_true]at hw;have g0:∀k∈y0.1.weights Tryz.prog 24,k∈d.weights Tryz.prog 27:=fun k hk=>by
    rw[hd];simp only[DataW.weights,Tryz.underlying27];exact DataW.weights_mem_each (j:=0) (t:=24) (d:=y0.1) rfl rfl k hk
   refine⟨dI j1 (List.all_eq_true.2 fun k hk=>hw k (g0 k ?_)) hn.a.B,dI j2 (List.all_eq_true.2 fun k hk=>hw k (g0 k ?_)) hn.a.E⟩
   ·rw[f0];simp only[DataW.weights,Tryz.underlying24];exact DataW.weights_mem_each (j:=1) (t:=22) (d:=z1.1) rfl rfl k hk
   ·rw[f0];simp only[DataW.weights,Tryz.underlying24];exact DataW.weights_mem_each (j:=2) (t:=22) (d:=z2.1) rfl rfl k hk
theorem OM {v:Value}{d:DataW H}{p:List MemPlace}(h:DataW.Trod enc Tryz.prog W 0 (fun _=>true) true 22 v d p)(hw:(d.weights Tryz.prog 22).all (·<=reachBytes)=true){m:Mat}(e:v=m.val)(hm:m.In W.heap.size W):m.Small:=by
 subst e;obtain⟨d0,hf⟩:=h;exact dI hf hw hm
end
section
variable {H:Type} {enc:TypeId×Value->H} {W:World}
theorem RF {n:Nat}{cs:List Value}{y:DataW H×List MemPlace}(h:DataW.trod enc Tryz.prog W 0 (fun _=>true) true n 32 cs=some y):
 ∃ (a:Option Addr) (l q b o:Nat) (f:Nat->Int),cs=[.slice a l q]/\Ints a l b o f W/\(0<l->b<W.heap.size)/\l<=q/\q<=maxLen:=by
 rcases open_ints Tryz.underlying32 Tryz.underlying3 Tryz.cells3 h with ⟨hcs,_⟩ | ⟨a,len,cap,zs,hcs,_,hl,hm,hz,_,hcell,_⟩
 ·exact⟨none,0,0,0,0,fun _=>0,hcs,⟨fun h=>absurd h nZ,fun _ h=>absurd h nZ,zL⟩,fun h=>absurd h nZ,lR,zL⟩
 ·simp only[if_true]at hz;obtain⟨gb,go,gs⟩:=a;rcases Nat.eq_zero_or_pos len with hl0 | hlp
  ·subst hl0;exact⟨_,0,cap,0,0,fun _=>0,hcs,⟨fun h=>absurd h nZ,fun _ h=>absurd h nZ,zL⟩,fun h=>absurd h nZ,zL,hm⟩
  ·have d0:gs=none:=by simpa [Addr.add] using World.cell?_spot (hcell 0 (by omega))
   subst d0;have hc:∀i,i<len->W.cell? ⟨gb,go+i,none⟩=some (.int .i64 (zs.getD i 0)):=fun i hi=>by rw[<-add_plain];exact hcell i (by omega)
   exact⟨_,len,cap,gb,go,fun i=>zs.getD i 0,hcs,⟨fun _=>rfl,hc,by omega⟩,fun _=>World.block_lt_of_cell? _ _ (hc 0 hlp),hl,hm⟩
end
theorem Tryz.cells31:Tryz.prog.cellsOf 31=2:=by kernel_rfl
theorem Tryz.cells57:Tryz.prog.cellsOf 57=2:=by kernel_rfl
theorem Tryz.cells28:Tryz.prog.cellsOf 28=1:=by kernel_rfl
theorem Tryz.cells59:Tryz.prog.cellsOf 59=3:=by kernel_rfl
theorem Tryz.cells29:Tryz.prog.cellsOf 29=1:=by kernel_rfl
theorem Tryz.cells9:Tryz.prog.cellsOf 9=1:=by kernel_rfl
def JS:BB:=⟨none,0,0,0,0,fun _=>0,⟨none,0,0,0,fun _=>none,fun _=>0,fun _=>0,fun _=>0,⟨0,fun _=>0,fun _ _=>0⟩⟩⟩
section
variable {H:Type} {enc:TypeId×Value->H} {W:World}
theorem PI {n:Nat}{cs:List Value}{y:DataW H×List MemPlace}(h:DataW.trod enc Tryz.prog W 0 (fun _=>true) true n 59 cs=some y):
 ∃m:xB,cs=[.int .i64 m.F,.int .i64 m.T,.string ⟨m.b.toArray⟩]/\m.b.length<=maxLen:=by
 obtain⟨xs,n1,rfl,rfl,g0,d0,f0⟩:=DataW.trod_struct Tryz.underlying59 h;rw[Tryz.cells59]at g0
 match cs,g0,xs,d0 with
 | [c0,c1,c2],_,[y0,y1,y2],_ =>
  have k0:=f0 0 _ rfl;have k1:=f0 1 _ rfl;have k2:=f0 2 _ rfl;simp[Tryz.cells3,Tryz.cells9]at k0 k1 k2;obtain⟨a0,e0,_,_⟩:=DataW.trod_int Tryz.underlying3 k0;obtain⟨a1,e1,_,_⟩:=DataW.trod_int Tryz.underlying3 k1;obtain⟨s,e2,_,hl⟩:=DataW.trod_string Tryz.underlying9 k2;simp at e0 e1 e2;subst e0 e1 e2;exact⟨⟨a0,a1,s.data.toList⟩,by simp,by rw[Array.length_toList];exact hl⟩
theorem GJ {n:Nat}{cs:List Value}{y:DataW H×List MemPlace}(h:DataW.trod enc Tryz.prog W 0 (fun _=>true) true n 57 cs=some y):
 ∃r:BB,cs=[.slice r.ra r.rl r.rc,.slice r.T.ga r.T.t.len r.T.cap]/\r.In W.heap.size W:=by
 obtain⟨xs,n1,rfl,rfl,f0,d0,g0⟩:=DataW.trod_struct Tryz.underlying57 h;rw[Tryz.cells57]at f0
 match cs,f0,xs,d0 with
 | [c0,c1],_,[y0,y1],_ =>
  have k0:=g0 0 _ rfl;have k1:=g0 1 _ rfl;simp[Tryz.cells32,Tryz.cells22]at k0 k1;obtain⟨a,l,q,b,o,f,e0,hi,h0,_,_⟩:=RF k0;simp at e0;subst e0;obtain⟨T,rfl,hT⟩:=tH k1;exact⟨⟨a,l,q,b,o,f,T⟩,rfl,hi,h0,hT⟩
theorem zS {n:Nat}{v:Value}{y:DataW H×List MemPlace}(h:DataW.trod enc Tryz.prog W 0 (fun _=>true) true n 29 [v]=some y):
 ∃x:TC,v=.slice x.ba x.bn x.bc/\x.In W.heap.size W/\x.bn<=x.bc:=by
 rcases DataW.trod_slice Tryz.underlying29 h with ⟨hcs,_⟩ | ⟨a,len,cap,elems,rest,n2,hn,hcs,hy,_,hl,hm,hel,hat,hsp,_⟩
 ·simp at hcs;exact⟨⟨none,0,0,0,0,fun _=>zA⟩,hcs,⟨fun h=>absurd h nZ,fun h=>absurd h nZ,fun _ h=>absurd h nZ,fun _ h=>absurd h nZ,fun _ h=>absurd h nZ,zL,fun _ h=>absurd h nZ⟩,zL⟩
 ·simp at hcs;obtain⟨gb,go,gs⟩:=a;rcases Nat.eq_zero_or_pos len with hl0 | hlp
  ·subst hl0;exact⟨⟨_,0,cap,0,0,fun _=>zA⟩,hcs,⟨fun h=>absurd h nZ,fun h=>absurd h nZ,fun _ h=>absurd h nZ,fun _ h=>absurd h nZ,fun _ h=>absurd h nZ,zL,fun _ h=>absurd h nZ⟩,zL⟩
  ·have f0:∀i,i<len->∃d0,W.cells? 0 ((⟨gb,go,gs⟩:Addr).add (i*3)) 3=some d0/\∃t:xB,d0=[.int .i64 t.F,.int .i64 t.T,.string ⟨t.b.toArray⟩]/\t.b.length<=maxLen:=fun i hi=>by
    have:=hat i hi;rw[Tryz.cells59,List.getElem?_eq_getElem (by omega)]at this;obtain⟨d0,h1,h2⟩:=Option.bind_eq_some_iff.1 this;exact⟨d0,h1,PI h2⟩
   have g0:gs=none:=by
    obtain⟨d0,h1,t,h2,_⟩:=f0 0 hlp;have:=(World.cells?_some h1).2.2 0 (by omega);rw[h2]at this;simpa [Addr.add] using World.cell?_spot this
   subst g0
   haveI:Inhabited xB:=⟨zA⟩
   obtain⟨P,hP⟩:=choose_lt (α:=xB) (n:=len) (p:=fun i p=>W.cell? ⟨gb,go+i*3,none⟩=some (.int .i64 p.F)/\W.cell? ⟨gb,go+i*3+1,none⟩=some (.int .i64 p.T)/\W.cell? ⟨gb,go+i*3+2,none⟩=some (.string ⟨p.b.toArray⟩)/\p.b.length<=maxLen) (fun i hi=>by
    obtain⟨d0,h1,t,h2,h3⟩:=f0 i hi;obtain⟨_,_,hc⟩:=World.cells?_some h1;rw[add_plain]at hc;have g:∀j,j<3->W.cell? ⟨gb,go+i*3+j,none⟩=[Value.int .i64 t.F,.int .i64 t.T,.string ⟨t.b.toArray⟩][j]?:=fun j hj=>by rw[<-add_plain,<-h2];exact hc j hj
    exact⟨t,g 0 (by omega),g 1 (by omega),g 2 (by omega),h3⟩)
   exact⟨⟨_,len,cap,gb,go,P⟩,hcs,⟨fun _=>rfl,fun _=>World.block_lt_of_cell? _ _ (hP 0 hlp).1,fun i hi=>(hP i hi).1,fun i hi=>(hP i hi).2.1,fun i hi=>(hP i hi).2.2.1,by show len<=_;omega,fun i hi=>(hP i hi).2.2.2⟩,hl⟩
theorem FQ {n:Nat}{v:Value}{y:DataW H×List MemPlace}(h:DataW.trod enc Tryz.prog W 0 (fun _=>true) true n 28 [v]=some y):
 ∃x:kC,v=.slice x.ga x.gn x.gc/\x.In W.heap.size W/\x.gn<=x.gc:=by
 rcases DataW.trod_slice Tryz.underlying28 h with ⟨hcs,_⟩ | ⟨a,len,cap,elems,rest,n2,hn,hcs,hy,_,hl,hm,hel,hat,hsp,_⟩
 ·simp at hcs;exact⟨⟨none,0,0,0,0,fun _=>JS⟩,hcs,⟨fun h=>absurd h nZ,fun h=>absurd h nZ,fun _ h=>absurd h nZ,fun _ h=>absurd h nZ,fun _ h=>absurd h nZ,zL⟩,zL⟩
 ·simp at hcs;obtain⟨gb,go,gs⟩:=a;rcases Nat.eq_zero_or_pos len with hl0 | hlp
  ·subst hl0;exact⟨⟨_,0,cap,0,0,fun _=>JS⟩,hcs,⟨fun h=>absurd h nZ,fun h=>absurd h nZ,fun _ h=>absurd h nZ,fun _ h=>absurd h nZ,fun _ h=>absurd h nZ,zL⟩,zL⟩
  ·have f0:∀i,i<len->∃d0,W.cells? 0 ((⟨gb,go,gs⟩:Addr).add (i*2)) 2=some d0/\∃t:BB,d0=[.slice t.ra t.rl t.rc,.slice t.T.ga t.T.t.len t.T.cap]/\t.In W.heap.size W:=fun i hi=>by
    have:=hat i hi;rw[Tryz.cells57,List.getElem?_eq_getElem (by omega)]at this;obtain⟨d0,h1,h2⟩:=Option.bind_eq_some_iff.1 this;exact⟨d0,h1,GJ h2⟩
   have g0:gs=none:=by
    obtain⟨d0,h1,t,h2,_⟩:=f0 0 hlp;have:=(World.cells?_some h1).2.2 0 (by omega);rw[h2]at this;simpa [Addr.add] using World.cell?_spot this
   subst g0
   haveI:Inhabited BB:=⟨JS⟩
   obtain⟨P,hP⟩:=choose_lt (α:=BB) (n:=len) (p:=fun i p=>W.cell? ⟨gb,go+i*2,none⟩=some (.slice p.ra p.rl p.rc)/\W.cell? ⟨gb,go+i*2+1,none⟩=some (.slice p.T.ga p.T.t.len p.T.cap)/\p.In W.heap.size W) (fun i hi=>by
    obtain⟨d0,h1,t,h2,h3⟩:=f0 i hi;obtain⟨_,_,hc⟩:=World.cells?_some h1;rw[add_plain]at hc;have g:∀j,j<2->W.cell? ⟨gb,go+i*2+j,none⟩=[Value.slice t.ra t.rl t.rc,.slice t.T.ga t.T.t.len t.T.cap][j]?:=fun j hj=>by rw[<-add_plain,<-h2];exact hc j hj
    exact⟨t,g 0 (by omega),g 1 (by omega),h3⟩)
   exact⟨⟨_,len,cap,gb,go,P⟩,hcs,⟨fun _=>rfl,fun _=>World.block_lt_of_cell? _ _ (hP 0 hlp).1,fun i hi=>(hP i hi).1,fun i hi=>(hP i hi).2.1,fun i hi=>(hP i hi).2.2,by show len<=_;omega⟩,hl⟩
theorem tN {b0:Nat}{v:Value}{d:DataW H}{p:List MemPlace}(hv:Value.okWide Tryz.prog W .any b0 31 v)(h:DataW.Trod enc Tryz.prog W 0 (fun _=>true) true 31 v d p):
 ∃x:iA,v=x.val/\x.In W.heap.size W/\x.bag.bn<=x.bag.bc:=by
 obtain⟨cs,rfl,j0⟩:=okWide_struct Tryz.underlying31 hv;obtain⟨i0,hf⟩:=h;obtain⟨xs,n1,_,_,f0,d0,g0⟩:=DataW.trod_struct Tryz.underlying31 hf;have h0:cs.toList.length=2:=by rw[Tryz.cells31]at f0;simpa [Value.cells] using f0
 obtain⟨l⟩:=cs
 match l,h0,xs,d0 with
 | [c0,c1],_,[y0,y1],_ =>
  have k0:=g0 0 _ rfl;have k1:=g0 1 _ rfl;simp[Value.cells,Tryz.cells28,Tryz.cells29]at k0 k1;obtain⟨rs,rfl,hr,_⟩:=FQ k0;obtain⟨bag,rfl,hb,hc⟩:=zS k1;exact⟨⟨rs,bag⟩,rfl,⟨hr,hb⟩,hc⟩
end
theorem Tryz.cells34:Tryz.prog.cellsOf 34=5:=by kernel_rfl
section
variable {H:Type} {enc:TypeId×Value->H} {W:World}
theorem DK {n:Nat}{cs:List Value}{y:DataW H×List MemPlace}(h:DataW.trod enc Tryz.prog W 0 (fun _=>true) true n 34 cs=some y):
 ∃v:EvM,cs=[.int .i64 v.kind,.int .i64 v.loc,.int .i64 v.b,.int .i64 v.c,.slice v.ra v.rl v.rc]/\v.In W.heap.size W:=by
 obtain⟨xs,n1,rfl,rfl,g0,f0,d0⟩:=DataW.trod_struct Tryz.underlying34 h;rw[Tryz.cells34]at g0
 match cs,g0,xs,f0 with
 | [c0,c1,c2,c3,c4],_,[y0,y1,y2,y3,y4],_ =>
  have k0:=d0 0 _ rfl;have k1:=d0 1 _ rfl;have k2:=d0 2 _ rfl;have k3:=d0 3 _ rfl;have k4:=d0 4 _ rfl;simp[Tryz.cells3,Tryz.cells32]at k0 k1 k2 k3 k4;obtain⟨a0,e0,_,_⟩:=DataW.trod_int Tryz.underlying3 k0;obtain⟨a1,e1,_,_⟩:=DataW.trod_int Tryz.underlying3 k1;obtain⟨a2,e2,_,_⟩:=DataW.trod_int Tryz.underlying3 k2;obtain⟨a3,e3,_,_⟩:=DataW.trod_int Tryz.underlying3 k3;obtain⟨a,l,q,b,o,f,e4,hi,h0,_,_⟩:=RF k4;simp at e0 e1 e2 e3 e4;subst e0 e1 e2 e3 e4;exact⟨⟨a0,a1,a2,a3,a,l,q,b,o,f⟩,rfl,hi,h0,hi.len⟩
theorem kP {b0:Nat}{v:Value}{d:DataW H}{p:List MemPlace}(hv:Value.okWide Tryz.prog W .any b0 34 v)(h:DataW.Trod enc Tryz.prog W 0 (fun _=>true) true 34 v d p):
 ∃x:EvM,v=x.val/\x.In W.heap.size W:=by
 obtain⟨cs,rfl,f0⟩:=okWide_struct Tryz.underlying34 hv;obtain⟨d0,hf⟩:=h;obtain⟨x,e,hx⟩:=DK hf;refine⟨x,?_,hx⟩;obtain⟨l⟩:=cs;simp[Value.cells]at e;subst e;rfl
end
end Go.Proofs.YtjhkadffaephmacGreat

namespace Go.Proofs.YtjhkadffaephmacGreat
set_option maxHeartbeats 16000000
set_option maxRecDepth 100000
open Go.RowKit Go.ChangeShapes
section
variable {H:Type} {enc:TypeId×Value->H} {P:Program} {w:World} {base:Nat} {spare:Nat->Bool} {held:Bool}
theorem KL {t0 t1 t2 t3 t4:TypeId}{args:Array Value}{ds:List (DataW H)}{ps:List MemPlace}(h:DataW.TrodAll enc P w base spare held [t0,t1,t2,t3,t4] args.toList ds ps):
 ∃v0 v1 v2 v3 v4 d0 d1 d2 d3 d4 p0 p1 p2 p3 p4,args=#[v0,v1,v2,v3,v4]/\ds=[d0,d1,d2,d3,d4]/\ps=p0 ++ p1 ++ p2 ++ p3 ++ p4/\DataW.Trod enc P w base spare held t0 v0 d0 p0/\DataW.Trod enc P w base spare held t1 v1 d1 p1/\DataW.Trod enc P w base spare held t2 v2 d2 p2/\DataW.Trod enc P w base spare held t3 v3 d3 p3/\DataW.Trod enc P w base spare held t4 v4 d4 p4:=by
 obtain⟨v0,r0,d0,e0,p0,q0,f0,rfl,rfl,h0,k0⟩:=trodAll_cons h;obtain⟨v1,r1,d1,e1,p1,q1,rfl,rfl,rfl,h1,k1⟩:=trodAll_cons k0;obtain⟨v2,r2,d2,e2,p2,q2,rfl,rfl,rfl,h2,k2⟩:=trodAll_cons k1;obtain⟨v3,r3,d3,e3,p3,q3,rfl,rfl,rfl,h3,k3⟩:=trodAll_cons k2;obtain⟨v4,r4,d4,e4,p4,q4,rfl,rfl,rfl,h4,k4⟩:=trodAll_cons k3;obtain⟨rfl,rfl,rfl⟩:=trodAll_nil k4;exact⟨v0,v1,v2,v3,v4,d0,d1,d2,d3,d4,p0,p1,p2,p3,p4,by cases args;simp_all,rfl,by simp,h0,h1,h2,h3,h4⟩
theorem EM {t0 t1 t2 t3 t4:TypeId}{v0 v1 v2 v3 v4:Value}{d0 d1 d2 d3 d4:DataW H}{p0 p1 p2 p3 p4:List MemPlace}(h0:DataW.Trod enc P w base spare held t0 v0 d0 p0)(h1:DataW.Trod enc P w base spare held t1 v1 d1 p1)
 (h2:DataW.Trod enc P w base spare held t2 v2 d2 p2) (h3:DataW.Trod enc P w base spare held t3 v3 d3 p3) (h4:DataW.Trod enc P w base spare held t4 v4 d4 p4):DataW.TrodAll enc P w base spare held [t0,t1,t2,t3,t4] [v0,v1,v2,v3,v4] [d0,d1,d2,d3,d4] (p0 ++ (p1 ++ (p2 ++ (p3 ++ p4)))) :=
 ⟨p0,p1 ++ (p2 ++ (p3 ++ p4)),h0,trodAll_mk4 h1 h2 h3 h4,rfl⟩
end
end Go.Proofs.YtjhkadffaephmacGreat
