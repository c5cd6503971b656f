/- Part 26. -/
import Derived.Test.YtcccbdnojlmgaaaK24
namespace Go.Proofs.Ytcccbdnojlmgaaa
set_option linter.all false
set_option maxHeartbeats 16000000
set_option maxRecDepth 100000
section
open Go.RowKit
def NoneL:List Cl->Prop
 |c::d::r=>(d.kind=3->(d.want<0↔c.size=0))∧NoneL (d::r)
 |_=>True
theorem NoneL.at:∀{cs:List Cl},NoneL cs->∀(i:Nat) (c d:Cl),cs[i+1]?=some c->cs[i]?=some d->c.kind=3->(c.want<0↔d.size=0)
 |[],_,i,c,d,h,_,_=>by simp at h
 |[a],_,i,c,d,h,_,_=>by simp at h
 |a::b::r,hN,0,c,d,h1,h2,h3=>by
  simp at h1 h2;subst h1 h2;exact hN.1 h3
 |a::b::r,hN,i+1,c,d,h1,h2,h3=>NoneL.at (cs:=b::r) hN.2 i c d (by simpa using h1) (by simpa using h2) h3
theorem NoneL.append:∀{a b:List Cl},NoneL a->NoneL b->(∀c r,b=c::r->¬c.kind=3)->NoneL (a++b)
 |[],b,_,hb,_=>hb
 |[x],[],_,_,_=>trivial
 |[x],y::r,_,hb,h=>⟨fun q=>(h y r rfl q).elim,hb⟩
 |x::y::r,b,ha,hb,h=>⟨ha.1,NoneL.append (a:=y::r) ha.2 hb h⟩
section
variable{σ τ:Type}{P:Pol σ}{Q:Pol τ}{pre:τ->Cl->Prop}{n:Nat}{R:σ->τ->List Nat->Prop}
theorem Good.append:∀{a b:List Cl} {t:τ},Good Q pre t a->Good Q pre (Q.nexts t a) b->Good Q pre t (a++b)
 |[],b,t,_,hb=>hb
 |c::a,b,t,⟨h1,h2,h3,h4,h5,h6,h7,h8,h9⟩,hb=>⟨h1,h2,h3,h4,h5,h6,h7,h8,Good.append h9 hb⟩
theorem Pol.nexts_append(t:τ)(a b:List Cl):Q.nexts t (a++b)=Q.nexts (Q.nexts t a) b:=by simp[Pol.nexts]
structure SimSys(P:Pol σ)(Q:Pol τ)(pre:τ->Cl->Prop)(n:Nat)(R:σ->τ->List Nat->Prop):Prop where
 len:∀{s t fr},R s t fr->fr.length=n
 size:∀{s t fr},R s t fr->Q.size t=P.size s∧P.size s<1000000
 ghosts:∀{s t fr},R s t fr->(Q.ghosts t).Perm (P.ghosts s)∧(P.ghosts s).Nodup∧(P.ghosts s).length<1000000
 miss:∀{s t fr id},R s t fr->¬id∈fr->1<=id->id<4294967296->pre t (P.see (P.miss s id) (clMiss id))∧R (P.miss s id) (Q.miss t id) fr
 access:∀{s t fr a id},R s t fr->a<n->(fr[a]?=some id∨fr[a]?=some 0∧¬id∈fr)->1<=id->id<4294967296->pre t (P.see (P.access s a id) (clAcc a id))∧R (P.access s a id) (Q.access t a id) (fr.set a id)
 set:∀{s t fr a x} (v:Bool),R s t fr->a<n->fr[a]?=some x->1<=x->pre t (P.see (P.set s a v) (clSet a v))∧R (P.set s a v) (Q.set t a v) fr
 victim:∀{s t fr id},R s t fr->¬id∈fr->1<=id->id<4294967296->Q.victim t id=P.victim s id
 none:∀{s t fr id},R s t fr->¬id∈fr->1<=id->id<4294967296->(P.victim s id=none↔P.size s=0)∧pre t (P.see s (clVic id (-1)))
 gone:∀{s t fr a id},R s t fr->¬id∈fr->1<=id->id<4294967296->P.victim s id=some a->a<n∧pre t (P.see (P.gone s id) (clVic id a))∧R (P.gone s id) (Q.gone t id) (fr.set a 0)
 remove:∀{s t fr a x},R s t fr->a<n->fr[a]?=some x->1<=x->pre t (P.see (P.remove s a) (clRem a))∧R (P.remove s a) (Q.remove t a) (fr.set a 0)
variable(S:SimSys P Q pre n R)
include S
theorem SimSys.one{s':σ}{t:τ}{fr:List Nat}{c:Cl}(hk:c.kind<5)(hp:pre t (P.see s' c))(hw:c.kind=3->c.want=fstI (Q.victim t c.page)){t':τ}(ht:Q.next t (P.see s' c)=t')(hR:R s' t' fr){cs:List Cl}(hr:Good Q pre t' cs):
  Good Q pre t (P.see s' c::cs):=by
 subst ht;obtain⟨g1,g2,g3⟩:=S.ghosts hR;exact⟨hk,hp,hw,(S.size hR).1,(S.size hR).2,g1,g2,g3,hr⟩
theorem SimSys.come{s:σ}{t:τ}{fr fm:List Nat}{a id:Nat}(h:R s t fr)(ha:a<n)(hfa:fr[a]?=some 0∧¬id∈fr)(h1:1<=id)(h2:id<4294967296)(hm:fm.set a id=fr.set a id)(prel:List Cl):
  ∃x y,P.come s fm a id prel=(x,fr.set a id,prel++y)∧(∃c d,y=[c,d]∧c.kind=1∧d.kind=2)∧Good Q pre t y∧R x (Q.nexts t y) (fr.set a id):=by
 obtain⟨p1,r1⟩:=S.access h ha (.inr hfa) h1 h2;have hl:=S.len h;obtain⟨p2,r2⟩:=S.set true r1 ha (x:=id) (by rw[List.getElem?_set,if_pos rfl,if_pos (by omega)]) h1;refine⟨P.set (P.access s a id) a true,[P.see (P.access s a id) (clAcc a id),P.see (P.set (P.access s a id) a true) (clSet a true)],?_,⟨_,_,rfl,rfl,rfl⟩,?_,?_⟩
 .show(_,fm.set a id,_)=_;rw[hm]
 .exact S.one (by show 1<5;omega) p1 (fun q=>(by cases q)) (by simp[Pol.next,Pol.see,clAcc]) r1 (S.one (by show 2<5;omega) p2 (fun q=>(by cases q)) (by simp[Pol.next,Pol.see,clSet]) r2 trivial)
 .simpa[Pol.nexts,Pol.next,Pol.see,clAcc,clSet]using r2
theorem SimSys.step{s:σ}{t:τ}{fr:List Nat}{k id:Nat}(h:R s t fr)(hk:k<4)(h1:1<=id)(h2:id<4294967296):
  Good Q pre t (P.step s fr k id).2.2∧NoneL (P.step s fr k id).2.2∧(∀c r,(P.step s fr k id).2.2=c::r->¬c.kind=3)∧R (P.step s fr k id).1 (Q.nexts t (P.step s fr k id).2.2) (P.step s fr k id).2.1:=by
 have hl:=S.len h;by_cases h0:k=0
 .subst h0
  cases e:atL fr id with
  |some a=>
   obtain⟨ha,hfa⟩:=atL_some e;obtain⟨p1,r1⟩:=S.access h (by omega) (.inl hfa) h1 h2;rw[set_same' hfa]at r1;have hs:P.step s fr 0 id=(P.access s a id,fr,[P.see (P.access s a id) (clAcc a id)]):=by simp[Pol.step,e]
   rw[hs];refine⟨S.one (by show 1<5;omega) p1 (fun q=>(by cases q)) (by simp[Pol.next,Pol.see,clAcc]) r1 trivial,trivial,fun c r q=>?_,?_⟩
   .simp at q;rw[<-q.1];simp[Pol.see,clAcc]
   .simpa[Pol.nexts,Pol.next,Pol.see,clAcc]using r1
  |none=>
   have hni:=atL_none e;obtain⟨pm,rm⟩:=S.miss h hni h1 h2;have gm:=@SimSys.one σ τ P Q pre n R S (P.miss s id) t fr (clMiss id) (by show 0<5;omega) pm (fun q=>(by cases q)) (Q.miss t id) (by simp[Pol.next,Pol.see,clMiss]) rm;have nm:Q.next t (P.see (P.miss s id) (clMiss id))=Q.miss t id:=by simp[Pol.next,Pol.see,clMiss]
   cases e0:atL fr 0 with
   |some a=>
    obtain⟨ha,hfa⟩:=atL_some e0;obtain⟨x,y,hc,⟨c1,d1,rfl,k1,k2⟩,hg,hR⟩:=S.come rm (by omega) ⟨hfa,hni⟩ h1 h2 rfl [P.see (P.miss s id) (clMiss id)];have hs:P.step s fr 0 id=P.come (P.miss s id) fr a id [P.see (P.miss s id) (clMiss id)]:=by simp[Pol.step,e,e0]
    rw[hs,hc];refine⟨gm hg,?_,fun c r q=>?_,?_⟩
    .exact⟨fun q=>(by rw[k1]at q;cases q),fun q=>(by rw[k2]at q;cases q),trivial⟩
    .simp at q;rw[<-q.1];simp[Pol.see,clMiss]
    .rw[Pol.nexts_append];simpa[Pol.nexts,nm]using hR
   |none=>
    cases ev:P.victim (P.miss s id) id with
    |none=>
     obtain⟨pn,pv⟩:=S.none rm hni h1 h2;have hs:P.step s fr 0 id=(P.miss s id,fr,[P.see (P.miss s id) (clMiss id),P.see (P.miss s id) (clVic id (-1))]):=by simp[Pol.step,e,e0,ev]
     have hv:=S.victim rm hni h1 h2;rw[hs];have nv:Q.next (Q.miss t id) (P.see (P.miss s id) (clVic id (-1)))=Q.miss t id:=by simp[Pol.next,Pol.see,clVic,hv,ev]
     refine⟨gm (S.one (by show 3<5;omega) pv (fun q=>?_) nv rm trivial),⟨fun q=>?_,trivial⟩,fun c r q=>?_,?_⟩
     .show(-1:Int)=fstI (Q.victim (Q.miss t id) id);rw[hv,ev];rfl
     .have:=pn.1 ev
      show(-1:Int)<0↔P.size (P.miss s id)=0
      simp[this]
     .simp at q;rw[<-q.1];simp[Pol.see,clMiss]
     .simpa[Pol.nexts,nm,nv]using rm
    |some a=>
     obtain⟨ha,pv,rv⟩:=S.gone rm hni h1 h2 ev;have hv:=S.victim rm hni h1 h2;have hl2:=S.len rm
     have hfa:(fr.set a 0)[a]?=some 0∧¬id∈fr.set a 0:=⟨by rw[List.getElem?_set,if_pos rfl,if_pos (by omega)],fun q=>by
      rcases List.mem_or_eq_of_mem_set q with q|q
      .exact hni q
      .omega⟩
     obtain⟨x,y,hc,⟨c1,d1,rfl,k1,k2⟩,hg,hR⟩:=S.come (fm:=fr) rv ha hfa h1 h2 (by rw[List.set_set]) [P.see (P.miss s id) (clMiss id),P.see (P.gone (P.miss s id) id) (clVic id a)];have hs:P.step s fr 0 id=P.come (P.gone (P.miss s id) id) fr a id [P.see (P.miss s id) (clMiss id),P.see (P.gone (P.miss s id) id) (clVic id a)]:=by simp[Pol.step,e,e0,ev]
     rw[hs,hc];have nv:Q.next (Q.miss t id) (P.see (P.gone (P.miss s id) id) (clVic id a))=Q.gone (Q.miss t id) id:=by simp[Pol.next,Pol.see,clVic,hv,ev]
     refine⟨gm (S.one (by show 3<5;omega) pv (fun q=>?_) nv rv hg),?_,fun c r q=>?_,?_⟩
     .show(a:Int)=fstI (Q.victim (Q.miss t id) id);rw[hv,ev];rfl
     .refine⟨fun q=>?_,fun q=>(by rw[k1]at q;cases q),fun q=>(by rw[k2]at q;cases q),trivial⟩
      have hz:¬P.size (P.miss s id)=0:=fun z=>by
       have:=(S.none rm hni h1 h2).1.2 z;rw[ev]at this;cases this
      show(a:Int)<0↔P.size (P.miss s id)=0
      constructor
      .intro q;omega
      .intro q;exact(hz q).elim
     .simp at q;rw[<-q.1];simp[Pol.see,clMiss]
     .rw[Pol.nexts_append];simpa[Pol.nexts,nm,nv,List.set_set]using hR
 .cases e:atL fr id with
  |none=>
   have hs:P.step s fr k id=(s,fr,[]):=by simp[Pol.step,h0,e]
   rw[hs];exact⟨trivial,trivial,fun c r q=>(by cases q),h⟩
  |some a=>
   obtain⟨ha,hfa⟩:=atL_some e;by_cases h3:k=3
   .obtain⟨p1,r1⟩:=S.remove h (by omega) hfa h1
    have hs:P.step s fr k id=(P.remove s a,fr.set a 0,[P.see (P.remove s a) (clRem a)]):=by simp[Pol.step,e,h3]
    rw[hs];refine⟨S.one (by show 4<5;omega) p1 (fun q=>(by cases q)) (by simp[Pol.next,Pol.see,clRem]) r1 trivial,trivial,fun c r q=>?_,?_⟩
    .simp at q;rw[<-q.1];simp[Pol.see,clRem]
    .simpa[Pol.nexts,Pol.next,Pol.see,clRem]using r1
   .obtain⟨p1,r1⟩:=S.set (!decide (k=1)) h (by omega) hfa h1
    have hs:P.step s fr k id=(P.set s a (!decide (k=1)),fr,[P.see (P.set s a (!decide (k=1))) (clSet a (!decide (k=1)))]):=by simp[Pol.step,e,h0,h3]
    rw[hs];refine⟨S.one (by show 2<5;omega) p1 (fun q=>(by cases q)) (by simp[Pol.next,Pol.see,clSet]) r1 trivial,trivial,fun c r q=>?_,?_⟩
    .simp at q;rw[<-q.1];simp[Pol.see,clSet]
    .simpa[Pol.nexts,Pol.next,Pol.see,clSet]using r1
theorem SimSys.run:∀{ops:List (Nat×Nat)} {s:σ} {t:τ} {fr:List Nat},R s t fr->(∀o∈ops,o.1<4∧1<=o.2∧o.2<4294967296)->
  Good Q pre t (P.run s fr ops).2.2∧NoneL (P.run s fr ops).2.2∧(∀c r,(P.run s fr ops).2.2=c::r->¬c.kind=3)∧R (P.run s fr ops).1 (Q.nexts t (P.run s fr ops).2.2) (P.run s fr ops).2.1
 |[],s,t,fr,h,_=>⟨trivial,trivial,fun c r q=>(by cases q),h⟩
 |(k,id)::ops,s,t,fr,h,ho=>by
  obtain⟨a1,a2,a3⟩:=ho (k,id) (List.mem_cons_self ..);obtain⟨g,nn,hh,r⟩:=S.step h a1 a2 a3;obtain⟨g',nn',hh',r'⟩:=SimSys.run (ops:=ops) r (fun o q=>ho o (List.mem_cons_of_mem _ q));refine⟨Good.append g g',NoneL.append nn nn' hh',fun c rr q=>?_,?_⟩
  .have q:(P.step s fr k id).2.2++(P.run (P.step s fr k id).1 (P.step s fr k id).2.1 ops).2.2=c::rr:=q
   cases e:(P.step s fr k id).2.2 with
   |nil=>rw[e]at q;exact hh' c rr q
   |cons x y=>rw[e]at q;simp at q;exact hh c y (by rw[e,q.1])
  .show R (P.run (P.step s fr k id).1 (P.step s fr k id).2.1 ops).1 (Q.nexts t ((P.step s fr k id).2.2++(P.run (P.step s fr k id).1 (P.step s fr k id).2.1 ops).2.2)) _
   rw[Pol.nexts_append];exact r'
end
section
variable{σ τ:Type}{P:Pol σ}{Q:Pol τ}{pre:τ->Cl->Prop}{n:Nat}{R:Nat->σ->τ->List Nat->Prop}
structure SimSysK(P:Pol σ)(Q:Pol τ)(pre:τ->Cl->Prop)(n:Nat)(R:Nat->σ->τ->List Nat->Prop):Prop where
 mono:∀{k s t fr},R k s t fr->R (k+1) s t fr
 len:∀{k s t fr},R k s t fr->fr.length=n
 size:∀{k s t fr},R k s t fr->Q.size t=P.size s∧P.size s<1000000
 ghosts:∀{k s t fr},R k s t fr->(Q.ghosts t).Perm (P.ghosts s)∧(P.ghosts s).Nodup∧(P.ghosts s).length<1000000
 miss:∀{k s t fr id},R k s t fr->¬id∈fr->1<=id->id<4294967296->pre t (P.see (P.miss s id) (clMiss id))∧R k (P.miss s id) (Q.miss t id) fr
 access:∀{k s t fr a id},R k s t fr->k<10000->a<n->(fr[a]?=some id∨fr[a]?=some 0∧¬id∈fr)->1<=id->id<4294967296->pre t (P.see (P.access s a id) (clAcc a id))∧R (k+1) (P.access s a id) (Q.access t a id) (fr.set a id)
 set:∀{k s t fr a x} (v:Bool),R k s t fr->k<10000->a<n->fr[a]?=some x->1<=x->pre t (P.see (P.set s a v) (clSet a v))∧R k (P.set s a v) (Q.set t a v) fr
 victim:∀{k s t fr id},R k s t fr->¬id∈fr->1<=id->id<4294967296->Q.victim t id=P.victim s id
 none:∀{k s t fr id},R k s t fr->k<10000->¬id∈fr->1<=id->id<4294967296->(P.victim s id=none↔P.size s=0)∧pre t (P.see s (clVic id (-1)))
 gone:∀{k s t fr a id},R k s t fr->k<10000->¬id∈fr->1<=id->id<4294967296->P.victim s id=some a->a<n∧pre t (P.see (P.gone s id) (clVic id a))∧R (k+1) (P.gone s id) (Q.gone t id) (fr.set a 0)
 remove:∀{k s t fr a x},R k s t fr->a<n->fr[a]?=some x->1<=x->pre t (P.see (P.remove s a) (clRem a))∧R k (P.remove s a) (Q.remove t a) (fr.set a 0)
variable(S:SimSysK P Q pre n R)
include S
theorem SimSysK.one{kk:Nat}{s':σ}{t:τ}{fr:List Nat}{c:Cl}(hk:c.kind<5)(hp:pre t (P.see s' c))(hw:c.kind=3->c.want=fstI (Q.victim t c.page)){t':τ}(ht:Q.next t (P.see s' c)=t')(hR:R kk s' t' fr){cs:List Cl}(hr:Good Q pre t' cs):
  Good Q pre t (P.see s' c::cs):=by
 subst ht;obtain⟨g1,g2,g3⟩:=S.ghosts hR;exact⟨hk,hp,hw,(S.size hR).1,(S.size hR).2,g1,g2,g3,hr⟩
theorem SimSysK.come{kk:Nat}(hkk:kk<9000){s:σ}{t:τ}{fr fm:List Nat}{a id:Nat}(h:R kk s t fr)(ha:a<n)(hfa:fr[a]?=some 0∧¬id∈fr)(h1:1<=id)(h2:id<4294967296)(hm:fm.set a id=fr.set a id)(prel:List Cl):
  ∃x y,P.come s fm a id prel=(x,fr.set a id,prel++y)∧(∃c d,y=[c,d]∧c.kind=1∧d.kind=2)∧Good Q pre t y∧R (kk+1) x (Q.nexts t y) (fr.set a id):=by
 obtain⟨p1,r1⟩:=S.access h (by omega) ha (.inr hfa) h1 h2;have hl:=S.len h;obtain⟨p2,r2⟩:=S.set true r1 (by omega) ha (x:=id) (by rw[List.getElem?_set,if_pos rfl,if_pos (by omega)]) h1;refine⟨P.set (P.access s a id) a true,[P.see (P.access s a id) (clAcc a id),P.see (P.set (P.access s a id) a true) (clSet a true)],?_,⟨_,_,rfl,rfl,rfl⟩,?_,?_⟩
 .show(_,fm.set a id,_)=_;rw[hm]
 .exact S.one (by show 1<5;omega) p1 (fun q=>(by cases q)) (by simp[Pol.next,Pol.see,clAcc]) r1 (S.one (by show 2<5;omega) p2 (fun q=>(by cases q)) (by simp[Pol.next,Pol.see,clSet]) r2 trivial)
 .simpa[Pol.nexts,Pol.next,Pol.see,clAcc,clSet]using r2
theorem SimSysK.step{kk:Nat}(hkk:kk<8000){s:σ}{t:τ}{fr:List Nat}{k id:Nat}(h:R kk s t fr)(hk:k<4)(h1:1<=id)(h2:id<4294967296):
  Good Q pre t (P.step s fr k id).2.2∧NoneL (P.step s fr k id).2.2∧(∀c r,(P.step s fr k id).2.2=c::r->¬c.kind=3)∧R (kk+2) (P.step s fr k id).1 (Q.nexts t (P.step s fr k id).2.2) (P.step s fr k id).2.1:=by
 have hl:=S.len h;by_cases h0:k=0
 .subst h0
  cases e:atL fr id with
  |some a=>
   obtain⟨ha,hfa⟩:=atL_some e;obtain⟨p1,r1⟩:=S.access h (by omega) (by omega) (.inl hfa) h1 h2;rw[set_same' hfa]at r1;have hs:P.step s fr 0 id=(P.access s a id,fr,[P.see (P.access s a id) (clAcc a id)]):=by simp[Pol.step,e]
   rw[hs];refine⟨S.one (by show 1<5;omega) p1 (fun q=>(by cases q)) (by simp[Pol.next,Pol.see,clAcc]) r1 trivial,trivial,fun c r q=>?_,?_⟩
   .simp at q;rw[<-q.1];simp[Pol.see,clAcc]
   .simpa[Pol.nexts,Pol.next,Pol.see,clAcc]using S.mono r1
  |none=>
   have hni:=atL_none e;obtain⟨pm,rm⟩:=S.miss h hni h1 h2;have gm:=@SimSysK.one σ τ P Q pre n R S kk (P.miss s id) t fr (clMiss id) (by show 0<5;omega) pm (fun q=>(by cases q)) (Q.miss t id) (by simp[Pol.next,Pol.see,clMiss]) rm;have nm:Q.next t (P.see (P.miss s id) (clMiss id))=Q.miss t id:=by simp[Pol.next,Pol.see,clMiss]
   cases e0:atL fr 0 with
   |some a=>
    obtain⟨ha,hfa⟩:=atL_some e0;obtain⟨x,y,hc,⟨c1,d1,rfl,k1,k2⟩,hg,hR⟩:=S.come (by omega) rm (by omega) ⟨hfa,hni⟩ h1 h2 rfl [P.see (P.miss s id) (clMiss id)];have hs:P.step s fr 0 id=P.come (P.miss s id) fr a id [P.see (P.miss s id) (clMiss id)]:=by simp[Pol.step,e,e0]
    rw[hs,hc];refine⟨gm hg,?_,fun c r q=>?_,?_⟩
    .exact⟨fun q=>(by rw[k1]at q;cases q),fun q=>(by rw[k2]at q;cases q),trivial⟩
    .simp at q;rw[<-q.1];simp[Pol.see,clMiss]
    .rw[Pol.nexts_append];simpa[Pol.nexts,nm]using S.mono hR
   |none=>
    cases ev:P.victim (P.miss s id) id with
    |none=>
     obtain⟨pn,pv⟩:=S.none rm (by omega) hni h1 h2;have hs:P.step s fr 0 id=(P.miss s id,fr,[P.see (P.miss s id) (clMiss id),P.see (P.miss s id) (clVic id (-1))]):=by simp[Pol.step,e,e0,ev]
     have hv:=S.victim rm hni h1 h2;rw[hs];have nv:Q.next (Q.miss t id) (P.see (P.miss s id) (clVic id (-1)))=Q.miss t id:=by simp[Pol.next,Pol.see,clVic,hv,ev]
     refine⟨gm (S.one (by show 3<5;omega) pv (fun q=>?_) nv rm trivial),⟨fun q=>?_,trivial⟩,fun c r q=>?_,?_⟩
     .show(-1:Int)=fstI (Q.victim (Q.miss t id) id);rw[hv,ev];rfl
     .have:=pn.1 ev
      show(-1:Int)<0↔P.size (P.miss s id)=0
      simp[this]
     .simp at q;rw[<-q.1];simp[Pol.see,clMiss]
     .simpa[Pol.nexts,nm,nv]using S.mono (S.mono rm)
    |some a=>
     obtain⟨ha,pv,rv⟩:=S.gone rm (by omega) hni h1 h2 ev;have hv:=S.victim rm hni h1 h2;have hl2:=S.len rm
     have hfa:(fr.set a 0)[a]?=some 0∧¬id∈fr.set a 0:=⟨by rw[List.getElem?_set,if_pos rfl,if_pos (by omega)],fun q=>by
      rcases List.mem_or_eq_of_mem_set q with q|q
      .exact hni q
      .omega⟩
     obtain⟨x,y,hc,⟨c1,d1,rfl,k1,k2⟩,hg,hR⟩:=S.come (fm:=fr) (by omega) rv ha hfa h1 h2 (by rw[List.set_set]) [P.see (P.miss s id) (clMiss id),P.see (P.gone (P.miss s id) id) (clVic id a)];have hs:P.step s fr 0 id=P.come (P.gone (P.miss s id) id) fr a id [P.see (P.miss s id) (clMiss id),P.see (P.gone (P.miss s id) id) (clVic id a)]:=by simp[Pol.step,e,e0,ev]
     rw[hs,hc];have nv:Q.next (Q.miss t id) (P.see (P.gone (P.miss s id) id) (clVic id a))=Q.gone (Q.miss t id) id:=by simp[Pol.next,Pol.see,clVic,hv,ev]
     refine⟨gm (S.one (by show 3<5;omega) pv (fun q=>?_) nv rv hg),?_,fun c r q=>?_,?_⟩
     .show(a:Int)=fstI (Q.victim (Q.miss t id) id);rw[hv,ev];rfl
     .refine⟨fun q=>?_,fun q=>(by rw[k1]at q;cases q),fun q=>(by rw[k2]at q;cases q),trivial⟩
      have hz:¬P.size (P.miss s id)=0:=fun z=>by
       have:=(S.none rm (by omega) hni h1 h2).1.2 z;rw[ev]at this;cases this
      show(a:Int)<0↔P.size (P.miss s id)=0
      constructor
      .intro q;omega
      .intro q;exact(hz q).elim
     .simp at q;rw[<-q.1];simp[Pol.see,clMiss]
     .rw[Pol.nexts_append];simpa[Pol.nexts,nm,nv,List.set_set]using hR
 .cases e:atL fr id with
  |none=>
   have hs:P.step s fr k id=(s,fr,[]):=by simp[Pol.step,h0,e]
   rw[hs];exact⟨trivial,trivial,fun c r q=>(by cases q),S.mono (S.mono h)⟩
  |some a=>
   obtain⟨ha,hfa⟩:=atL_some e;by_cases h3:k=3
   .obtain⟨p1,r1⟩:=S.remove h (by omega) hfa h1
    have hs:P.step s fr k id=(P.remove s a,fr.set a 0,[P.see (P.remove s a) (clRem a)]):=by simp[Pol.step,e,h3]
    rw[hs];refine⟨S.one (by show 4<5;omega) p1 (fun q=>(by cases q)) (by simp[Pol.next,Pol.see,clRem]) r1 trivial,trivial,fun c r q=>?_,?_⟩
    .simp at q;rw[<-q.1];simp[Pol.see,clRem]
    .simpa[Pol.nexts,Pol.next,Pol.see,clRem]using S.mono (S.mono r1)
   .obtain⟨p1,r1⟩:=S.set (!decide (k=1)) h (by omega) (by omega) hfa h1
    have hs:P.step s fr k id=(P.set s a (!decide (k=1)),fr,[P.see (P.set s a (!decide (k=1))) (clSet a (!decide (k=1)))]):=by simp[Pol.step,e,h0,h3]
    rw[hs];refine⟨S.one (by show 2<5;omega) p1 (fun q=>(by cases q)) (by simp[Pol.next,Pol.see,clSet]) r1 trivial,trivial,fun c r q=>?_,?_⟩
    .simp at q;rw[<-q.1];simp[Pol.see,clSet]
    .simpa[Pol.nexts,Pol.next,Pol.see,clSet]using S.mono (S.mono r1)
theorem SimSysK.run:∀{ops:List (Nat×Nat)} {kk:Nat} {s:σ} {t:τ} {fr:List Nat},R kk s t fr->kk+2*ops.length<8000->(∀o∈ops,o.1<4∧1<=o.2∧o.2<4294967296)->
  Good Q pre t (P.run s fr ops).2.2∧NoneL (P.run s fr ops).2.2∧(∀c r,(P.run s fr ops).2.2=c::r->¬c.kind=3)
 |[],kk,s,t,fr,h,_,_=>⟨trivial,trivial,fun c r q=>(by cases q)⟩
 |(k,id)::ops,kk,s,t,fr,h,hl,ho=>by
  rw[List.length_cons]at hl;obtain⟨a1,a2,a3⟩:=ho (k,id) (List.mem_cons_self ..);obtain⟨g,nn,hh,r⟩:=S.step (by omega) h a1 a2 a3;obtain⟨g',nn',hh'⟩:=SimSysK.run (ops:=ops) r (by omega) (fun o q=>ho o (List.mem_cons_of_mem _ q));refine⟨Good.append g g',NoneL.append nn nn' hh',fun c rr q=>?_⟩;have q:(P.step s fr k id).2.2++(P.run (P.step s fr k id).1 (P.step s fr k id).2.1 ops).2.2=c::rr:=q
  cases e:(P.step s fr k id).2.2 with
  |nil=>rw[e]at q;exact hh' c rr q
  |cons x y=>rw[e]at q;simp at q;exact hh c y (by rw[e,q.1])
end
end
end Go.Proofs.Ytcccbdnojlmgaaa
