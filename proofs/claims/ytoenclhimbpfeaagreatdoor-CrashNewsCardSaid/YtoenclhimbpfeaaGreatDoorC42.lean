/- Part 42. -/
import Derived.Test.YtoenclhimbpfeaaGreatDoorC18
import Derived.Test.YtoenclhimbpfeaaGreatDoorC41
namespace Go.Proofs.YtoenclhimbpfeaaGreatDoor
set_option linter.all false
set_option maxHeartbeats 16000000
set_option maxRecDepth 100000
section
open Go.RowKit
structure Ok5(n:Nat)(m:Nat)(s:LK)(pg:Nat->Nat)(ev:Nat->Bool):Prop where
 en:s.n=n
 T:s.T<=m
 g:s.gone<=m
 f1:∀f,f<n->(s.fr f).1=!decide (pg f=0)
 f2:∀f,f<n->¬pg f=0->(s.fr f).2=pg f
 R:∀f,(s.R f).isSome=true↔Goer n pg ev f
 t:s.t=cntR s.R s.n
 O:∀f,f<n->¬pg f=0->∀p∈s.Old,¬p.1=pg f
 ij:∀f g,f<n->g<n->¬pg f=0->pg f=pg g->f=g
def ok5(n:Nat)(m:Nat)(s:LK)(pg:Nat->Nat)(ev:Nat->Bool):Prop:=Ok5 n m s pg ev
theorem goes_noP{s:LK}{id:Nat}(h0:¬s.t=0)(q:¬∃x,Goes s x):polL.victim s id=none:=by
 unfold polL
 dsimp only
 rw[if_neg h0,dif_neg q]
theorem goes_exP{s:LK}{z:Nat}(hn:∀x,(s.R x).isSome=true->x<s.n)(hzs:(s.R z).isSome=true):∃x,Goes s x:=by
 by_cases hf:∃y,(farK s.R (farOf s) y).isSome=true
 .obtain⟨y,hy⟩:=hf
  obtain⟨x,hx⟩:=leastK_ex (farK s.R (farOf s)) s.n (fun x q=>hn x (by unfold farK at q;split at q;exact q;cases q)) hy;exact⟨x,.inl hx⟩
 .have hall:∀y,farK s.R (farOf s) y=none:=fun y=>by
   cases e:farK s.R (farOf s) y with
   |none=>rfl
   |some p=>exact(hf ⟨y,by rw[e];rfl⟩).elim
  have hfz:(freshK s.R (farOf s) z).isSome=true:=by
   have h1:=hall z;unfold farK at h1;unfold freshK
   cases e:farOf s z with
   |true=>rw[e,if_pos rfl]at h1;rw[h1]at hzs;cases hzs
   |false=>exact hzs
  obtain⟨x,hx⟩:=leastK_ex (freshK s.R (farOf s)) s.n (fun x q=>hn x (by
   unfold freshK at q
   split at q
   .cases q
   .exact q)) hfz
  exact⟨x,.inr ⟨hall,hx⟩⟩
section
variable{n m k id:Nat}{s s':LK}{pg pg':Nat->Nat}{ev ev':Nat->Bool}
theorem Ok5.lt(h:Ok5 n m s pg ev){x:Nat}(q:(s.R x).isSome=true):x<n:=((h.R x).1 q).1
theorem Ok5.rank(h:Ok5 n m s pg ev)(e1:s'.n=s.n)(e2:s'.T<=m+1)(e3:s'.gone=s.gone)(e4:s'.fr=s.fr)(e5:∀x,(s'.R x).isSome=(s.R x).isSome)(e6:s'.t=s.t)(e7:∀p∈s'.Old,p∈s.Old):Ok5 n (m+1) s' pg ev:=by
 refine⟨by rw[e1];exact h.en,e2,by have:=h.g;omega,fun f hf=>by rw[e4];exact h.f1 f hf,fun f hf=>by rw[e4];exact h.f2 f hf,fun f=>by rw[e5];exact h.R f,?_,fun f hf q p hp=>h.O f hf q p (e7 p hp),h.ij⟩;rw[e6,h.t,e1]
 have:∀j,cntR s.R j=cntR s'.R j:=fun j=>by
  induction j with
  |zero=>rfl
  |succ j ih=>unfold cntR;rw[ih,e5]
 exact this _
theorem goer_same(hpg:∀i,i<n->pg i=pg' i)(hev:∀i,i<n->¬pg i=0->ev i=ev' i)(x:Nat):Goer n pg ev x↔Goer n pg' ev' x:=by
 unfold Goer;constructor
 .rintro⟨a,b,c⟩;exact⟨a,by rw[<-hpg x a];exact b,by rw[<-hev x a b];exact c⟩
 .rintro⟨a,b,c⟩
  have b':¬pg x=0:=by rw[hpg x a];exact b
  exact⟨a,b',by rw[hev x a b'];exact c⟩
theorem acc_f(s:LK)(k id:Nat):(accS s k id).n=s.n∧(accS s k id).T=s.T+1∧(accS s k id).gone=s.gone∧(accS s k id).t=s.t∧(accS s k id).fr=(comS s k id).fr∧(accS s k id).Old=(comS s k id).Old∧∀x,((accS s k id).R x).isSome=(s.R x).isSome:=by
 have hR:∀(S:LK) (x:Nat),((rerS S k).R x).isSome=(S.R x).isSome:=fun S x=>by
  unfold rerS
  split
  .rename_i q
   show(updKK S.R k _ x).isSome=_
   by_cases c:x=k
   .subst c;rw[updK_sameK];rw[q];rfl
   .rw[updK_otherK _ _ c]
  .rfl
 have hr:∀S:LK,(rerS S k).n=S.n∧(rerS S k).T=S.T∧(rerS S k).gone=S.gone∧(rerS S k).t=S.t∧(rerS S k).fr=S.fr∧(rerS S k).Old=S.Old:=fun S=>by
  unfold rerS;split<;>exact⟨rfl,rfl,rfl,rfl,rfl,rfl⟩
 have hc:(comS s k id).n=s.n∧(comS s k id).T=s.T∧(comS s k id).gone=s.gone∧(comS s k id).t=s.t∧(comS s k id).R=s.R:=by
  unfold comS;split<;>exact⟨rfl,rfl,rfl,rfl,rfl⟩
 unfold accS;obtain⟨r1,r2,r3,r4,r5,r6⟩:=hr (touS (comS s k id) ((comS s k id).fr k).2);obtain⟨c1,c2,c3,c4,c5⟩:=hc;refine⟨r1.trans c1,r2.trans (by show(comS s k id).T+1=_;rw[c2]),r3.trans c3,r4.trans c4,r5,r6,fun x=>?_⟩;rw[hR]
 show((comS s k id).R x).isSome=_
 rw[c5]
theorem woO_memQ{l:List (Nat×Nat)}{x:Nat}{p:Nat×Nat}:p∈woO l x↔p∈l∧¬p.1=x:=by
 unfold woO;rw[List.mem_filter];simp
end
theorem okS5(n:Nat):OkSys polL pre5 n (ok5 n) where
 more:=fun{m k s pg ev} h hk=>⟨h.en,Nat.le_trans h.T hk,Nat.le_trans h.g hk,h.f1,h.f2,h.R,h.t,h.O,h.ij⟩
 same:=fun{m s pg pg' ev ev'} h e1 e2=>⟨h.en,h.T,h.g,fun f hf=>by rw[<-e1 f hf];exact h.f1 f hf,fun f hf q=>by rw[<-e1 f hf]at q⊢;exact h.f2 f hf q,fun f=>(h.R f).trans (goer_same e1 e2 f),h.t,fun f hf q=>by rw[<-e1 f hf]at q⊢;exact h.O f hf q,fun f g hf hg q e=>by rw[<-e1 f hf]at q e;rw[<-e1 g hg]at e;exact h.ij f g hf hg q e⟩
 pMiss:=fun _ _ _ _ _=>⟨fun q=>(by cases q),fun q=>(by cases q),fun q=>(by cases q),fun q=>(by cases q)⟩
 pAcc:=fun{m s pg ev id k} h hm _ h2 hk _=>⟨fun _=>⟨by show k<s.n;rw[h.en];exact hk,h2,by have:=h.T;show s.T<_;omega⟩,fun q=>(by cases q),fun q=>(by cases q),fun q=>(by cases q)⟩
 pSet:=fun{m s pg ev k} b h hm hk hx=>⟨fun q=>(by cases q),fun _=>⟨by show k<s.n;rw[h.en];exact hk,by show(s.fr k).1=true;rw[h.f1 k hk];simp[hx],by have:=h.T;show s.T<_;omega⟩,fun q=>(by cases q),fun q=>(by cases q)⟩
 pVic:=fun{m s pg ev id} h hm _ _ _=>⟨fun q=>(by cases q),fun q=>(by cases q),fun _=>⟨by have:=h.T;show s.T<_;omega,by have:=h.g;show s.gone+1<_;omega,fun x hx=>by
  obtain⟨g1,g2,_⟩:=(h.R x).1 hx;exact⟨by rw[h.en];exact g1,oldK_none.2 (fun p hp=>by rw[h.f2 x g1 g2];exact h.O x g1 g2 p hp)⟩⟩,fun q=>(by cases q)⟩
 pRem:=fun{m s pg ev k} h hm hk hx=>⟨fun q=>(by cases q),fun q=>(by cases q),fun q=>(by cases q),fun _=>⟨by show k<s.n;rw[h.en];exact hk,by show(s.fr k).1=true;rw[h.f1 k hk];simp[hx]⟩⟩
 okMiss:=fun{m s pg ev id} h _ _ _=>⟨h.en,Nat.le_succ_of_le h.T,Nat.le_succ_of_le h.g,h.f1,h.f2,h.R,h.t,h.O,h.ij⟩
 okNew:=fun{m s pg ev id k} h _ h1 _ hk h0 hn=>by
  obtain⟨a1,a2,a3,a4,a5,a6,a7⟩:=acc_f s k id;have hf:(s.fr k).1=false:=by rw[h.f1 k hk];simp[h0]
  have hc:comS s k id={s with fr:=updF s.fr k (true,id),Old:=woO s.Old id}:=by unfold comS;rw[hf];rfl
  rw[hc]at a5 a6;refine⟨by show(accS s k id).n=n;rw[a1];exact h.en,by show(accS s k id).T<=_;rw[a2];have:=h.T;omega,by show(accS s k id).gone<=_;rw[a3];exact Nat.le_succ_of_le h.g,fun f hf=>?_,fun f hf q=>?_,fun f=>?_,?_,fun f hf q p hp=>?_,fun f g hf hg q e=>?_⟩
  .show((accS s k id).fr f).1=_
   rw[a5]
   show(updF s.fr k (true,id) f).1=_
   by_cases c:f=k
   .subst c;rw[updF_same,upd_same];simp;omega
   .rw[updF_other _ _ c,upd_other _ _ c];exact h.f1 f hf
  .show((accS s k id).fr f).2=_
   rw[a5]
   show(updF s.fr k (true,id) f).2=_
   by_cases c:f=k
   .subst c;rw[updF_same,upd_same]
   .rw[upd_other _ _ c]at q;rw[updF_other _ _ c,upd_other _ _ c];exact h.f2 f hf q
  .show((accS s k id).R f).isSome=true↔_
   rw[a7,h.R];unfold Goer;by_cases c:f=k
   .subst c;rw[upd_same,upd_same];exact⟨fun q=>(q.2.1 h0).elim,fun q=>(by cases q.2.2)⟩
   .rw[upd_other _ _ c,upd_other _ _ c]
  .show(accS s k id).t=cntR (accS s k id).R (accS s k id).n
   rw[a4,a1,h.t]
   have:∀j,cntR s.R j=cntR (accS s k id).R j:=fun j=>by
    induction j with
    |zero=>rfl
    |succ j ih=>unfold cntR;rw[ih,a7]
   exact this _
  .have hp:p∈(accS s k id).Old:=hp
   rw[a6]at hp;obtain⟨p1,p2⟩:=woO_memQ.1 hp;by_cases c:f=k
   .subst c;rw[upd_same];exact p2
   .rw[upd_other _ _ c]at q⊢;exact h.O f hf q p p1
  .by_cases c:f=k
   .by_cases d:g=k
    .rw[c,d]
    .rw[c,upd_same,upd_other _ _ d]at e;exact(hn g hg e.symm).elim
   .by_cases d:g=k
    .rw[d,upd_same,upd_other _ _ c]at e;exact(hn f hf e).elim
    .rw[upd_other _ _ c]at q e;rw[upd_other _ _ d]at e;exact h.ij f g hf hg q e
 okOld:=fun{m s pg ev id k} h _ h1 hk h0=>by
  obtain⟨a1,a2,a3,a4,a5,a6,a7⟩:=acc_f s k id;have hf:(s.fr k).1=true:=by rw[h.f1 k hk];simp;omega
  have hc:comS s k id=s:=by unfold comS;rw[hf];rfl
  rw[hc]at a5 a6;exact h.rank (s':={accS s k id with Fa:=fun _=>false}) a1 (by show(accS s k id).T<=_;rw[a2];have:=h.T;omega) a3 a5 a7 a4 (fun p hp=>by have hp:p∈(accS s k id).Old:=hp;rw[a6]at hp;exact hp)
 okSet:=fun{m s pg ev k} b h _ hk hx=>by
  have hks:k<s.n:=by rw[h.en];exact hk
  have hG:(s.R k).isSome=ev k:=by
   cases e:ev k with
   |true=>exact(h.R k).2 ⟨hk,hx,e⟩
   |false=>
    cases c:(s.R k).isSome with
    |false=>rfl
    |true=>have:=((h.R k).1 c).2.2;rw[e]at this;cases this
  show ok5 n (m+1) ({setS s k b with Fa:=fun _=>false}:LK) pg (upd ev k b)
  unfold setS;by_cases c:(s.R k).isSome=b
  .rw[if_pos c]
   refine⟨h.en,Nat.le_succ_of_le h.T,Nat.le_succ_of_le h.g,h.f1,h.f2,fun f=>(h.R f).trans (goer_same (fun _ _=>rfl) (fun i _ _=>?_) f),h.t,h.O,h.ij⟩;by_cases d:i=k
   .subst d;rw[upd_same,<-c,hG]
   .rw[upd_other _ _ d]
  .rw[if_neg c]
   have hR:∀(y:Option (Int×Int)),y.isSome=b->∀f,(updKK s.R k y f).isSome=true↔Goer n pg (upd ev k b) f:=fun y hy f=>by
    by_cases d:f=k
    .subst d
     rw[updK_sameK,hy];unfold Goer;rw[upd_same];exact⟨fun q=>⟨hk,hx,q⟩,fun q=>q.2.2⟩
    .rw[updK_otherK _ _ d,h.R]
     unfold Goer;rw[upd_other _ _ d]
   cases b with
   |true=>
    rw[if_pos rfl];refine⟨h.en,Nat.le_succ_of_le h.T,Nat.le_succ_of_le h.g,h.f1,h.f2,hR _ rfl,?_,h.O,h.ij⟩
    show s.t+1=cntR (updKK s.R k _) s.n
    rw[cntR_put _ _ hks,h.t];have:(s.R k).isSome=false:=by simpa using c
    rw[this];rfl
   |false=>
    rw[if_neg (by simp)];refine⟨h.en,Nat.le_succ_of_le h.T,Nat.le_succ_of_le h.g,h.f1,h.f2,hR _ rfl,?_,h.O,h.ij⟩
    show s.t-1=cntR (updKK s.R k _) s.n
    rw[cntR_drop _ hks,h.t]
    have:(s.R k).isSome=true:=by
     cases e:(s.R k).isSome with
     |true=>rfl
     |false=>exact(c e).elim
    rw[this];rfl
 okRem:=fun{m s pg ev k} h _ hk hx=>by
  have hks:k<s.n:=by rw[h.en];exact hk
  show ok5 n (m+1) ({remvS s k with Fa:=fun _=>false}:LK) _ _
  unfold remvS;refine⟨h.en,Nat.le_succ_of_le h.T,Nat.le_succ_of_le h.g,fun f hf=>?_,fun f hf q=>?_,fun f=>?_,?_,fun f hf q p hp=>?_,fun f g hf hg q e=>?_⟩
  .show(updF s.fr k _ f).1=_
   by_cases c:f=k
   .subst c;rw[updF_same,upd_same];rfl
   .rw[updF_other _ _ c,upd_other _ _ c];exact h.f1 f hf
  .show(updF s.fr k _ f).2=_
   by_cases c:f=k
   .subst c;rw[upd_same]at q;exact(q rfl).elim
   .rw[upd_other _ _ c]at q;rw[updF_other _ _ c,upd_other _ _ c];exact h.f2 f hf q
  .show(updKK s.R k none f).isSome=true↔_
   unfold Goer;by_cases c:f=k
   .subst c;rw[updK_sameK,upd_same];exact⟨fun q=>(by cases q),fun q=>(q.2.1 rfl).elim⟩
   .rw[updK_otherK _ _ c,upd_other _ _ c,upd_other _ _ c];exact h.R f
  .show lessN s.t (s.R k).isSome=cntR (updKK s.R k none) s.n
   rw[cntR_drop _ hks,h.t]
  .by_cases c:f=k
   .subst c;rw[upd_same]at q;exact(q rfl).elim
   .rw[upd_other _ _ c]at q⊢;exact h.O f hf q p hp
  .by_cases c:f=k
   .subst c;rw[upd_same]at q;exact(q rfl).elim
   .by_cases d:g=k
    .rw[d,upd_same]at e;exact(q e).elim
    .rw[upd_other _ _ c]at q e;rw[upd_other _ _ d]at e;exact h.ij f g hf hg q e
 goer:=fun{m s pg ev id x} h hv=>by
  have hv:polL.victim s id=some x:=hv;by_cases h0:s.t=0
  .have:polL.victim s id=none:=if_pos h0
   rw[this]at hv;cases hv
  .have hex:∃x,Goes s x:=by
    apply Classical.byContradiction;intro q
    have:polL.victim s id=none:=by
     show polL.victim s id=none
     exact goes_noP h0 q
    rw[this]at hv;cases hv
   obtain⟨y,hy⟩:=hex;rw[(goes_some (by omega) hy).1]at hv
   injection hv with hv
   subst hv;exact(h.R y).1 (LeastC.some hy)
 some:=fun{m s pg ev id} h ⟨x,hx⟩ hv=>by
  have hR:=(h.R x).2 hx;have h0:0<s.t:=by rw[h.t];exact cntR_pos _ (by rw[h.en];exact hx.1) hR
  obtain⟨y,hy⟩:=goes_exP (s:=s) (fun x q=>by rw[h.en];exact h.lt q) hR;have hv:polL.victim s id=none:=hv;rw[(goes_some h0 hy).1]at hv
  cases hv
 okGone:=fun{m s pg ev id x} h _ h1 hn hv=>by
  have hv:polL.victim s id=some x:=hv
  have h0:¬s.t=0:=fun h0=>by
   have:polL.victim s id=none:=if_pos h0;rw[this]at hv;cases hv
  have hex:∃x,Goes s x:=by
   apply Classical.byContradiction;intro q
   have:polL.victim s id=none:=by
    exact goes_noP h0 q
   rw[this]at hv;cases hv
  obtain⟨y,hy⟩:=hex;obtain⟨g1,g2⟩:=goes_some (page:=id) (show 0<s.t by omega) hy;rw[g1]at hv
  injection hv with hv
  subst hv;rw[g2];have hRy:=LeastC.some hy;obtain⟨b1,b2,b3⟩:=(h.R y).1 hRy;have hys:y<s.n:=by rw[h.en];exact b1
  obtain⟨v1,v2,v3,v4,_⟩:=vic_facts s y s.Fa
  have w1:(vicS s y s.Fa).n=s.n∧(vicS s y s.Fa).fr=updF s.fr y (false,(s.fr y).2)∧(vicS s y s.Fa).t=s.t-1∧∀p∈(vicS s y s.Fa).Old,p∈s.Old∨p.1=(s.fr y).2:=by
   unfold vicS remS
   split
   .refine⟨rfl,rfl,rfl,fun p hp=>?_⟩
    have hp:p∈(s.Old++[((s.fr y).2,s.gone+1)]).tail:=hp;rcases List.mem_append.1 (List.mem_of_mem_tail hp)with q|q
    .exact .inl q
    .rw[List.mem_singleton.1 q];exact .inr rfl
   .refine⟨rfl,rfl,rfl,fun p hp=>?_⟩
    have hp:p∈s.Old++[((s.fr y).2,s.gone+1)]:=hp;rcases List.mem_append.1 hp with q|q
    .exact .inl q
    .rw[List.mem_singleton.1 q];exact .inr rfl
  obtain⟨w1,w2,w3,w4⟩:=w1;refine⟨by show(vicS s y s.Fa).n=n;rw[w1];exact h.en,by show(vicS s y s.Fa).T<=_;rw[v2];exact Nat.le_succ_of_le h.T,by show(vicS s y s.Fa).gone<=_;rw[v4];have:=h.g;omega,fun f hf=>?_,fun f hf q=>?_,fun f=>?_,?_,fun f hf q p hp=>?_,fun f g hf hg q e=>?_⟩
  .show((vicS s y s.Fa).fr f).1=_
   rw[w2];by_cases c:f=y
   .subst c;rw[updF_same,upd_same];rfl
   .rw[updF_other _ _ c,upd_other _ _ c];exact h.f1 f hf
  .show((vicS s y s.Fa).fr f).2=_
   rw[w2];by_cases c:f=y
   .subst c;rw[upd_same]at q;exact(q rfl).elim
   .rw[upd_other _ _ c]at q;rw[updF_other _ _ c,upd_other _ _ c];exact h.f2 f hf q
  .show((vicS s y s.Fa).R f).isSome=true↔_
   rw[v1];unfold Goer;by_cases c:f=y
   .subst c;rw[updK_sameK,upd_same];exact⟨fun q=>(by cases q),fun q=>(q.2.1 rfl).elim⟩
   .rw[updK_otherK _ _ c,upd_other _ _ c,upd_other _ _ c];exact h.R f
  .show(vicS s y s.Fa).t=cntR (vicS s y s.Fa).R (vicS s y s.Fa).n
   rw[w3,v1,w1,cntR_drop _ hys,h.t,hRy];rfl
  .have hp:p∈(vicS s y s.Fa).Old:=hp
   by_cases c:f=y
   .subst c;rw[upd_same]at q;exact(q rfl).elim
   .rw[upd_other _ _ c]at q⊢
    rcases w4 p hp with r|r
    .exact h.O f hf q p r
    .rw[r,h.f2 y b1 b2]
     exact fun e=>c (h.ij f y hf b1 q e.symm)
  .by_cases c:f=y
   .subst c;rw[upd_same]at q;exact(q rfl).elim
   .by_cases d:g=y
    .rw[d,upd_same]at e;exact(q e).elim
    .rw[upd_other _ _ c]at q e;rw[upd_other _ _ d]at e;exact h.ij f g hf hg q e
theorem rep5(pb lb n:Nat):RepSys (advOf polL) (CR5 lb) pb (repV5 lb) n (ok5 n):=repOf (cod5 lb) (clo5 lb) (okS5 n)
end
section
open Go.Maps Go.Proofs.Tryz Go.RowKit
section
variable{w w':World}
theorem full_at(n:Nat)(w:World)(h1:1<=n)(h2:n<=65535):Calls prog 35 #[.int .i64 n] w fun e w'=>∃v h L lo hi,lo=w.heap.size∧hi=w'.heap.size∧e=.returned (.agg #[.int .i64 n,.int .i64 n,v])∧LS w' n (belowB n) v h L∧(∀k,LF v h L k->lo<=k∧k<hi)∧Fr NoF w w':=
 (full_calls n w h1 h2).mono fun e w' ⟨v,h,L,he,q1,q2,q3⟩=>⟨v,h,L,_,_,rfl,rfl,he,q1,fun k q=>⟨q2 k q,q1.r.lt k q⟩,q3⟩
theorem empty_at(n:Nat)(w:World)(h1:1<=n)(h2:n<=65535):Calls prog 36 #[.int .i64 n] w fun e w'=>∃v h L lo hi,lo=w.heap.size∧hi=w'.heap.size∧e=.returned (.agg #[.int .i64 n,.int .i64 0,v])∧LS w' n noneB v h L∧(∀k,LF v h L k->lo<=k∧k<hi)∧Fr NoF w w':=
 (empty_calls n w h1 h2).mono fun e w' ⟨v,h,L,he,q1,q2,q3⟩=>⟨v,h,L,_,_,rfl,rfl,he,q1,fun k q=>⟨q2 k q,q1.r.lt k q⟩,q3⟩
theorem frV_made{n b:Nat}(hb:b=w.heap.size):Blk (w.alloc (.cells (madeCells #[.int .u32 0,.int .u64 0,.int .i64 0,.bool false] (n*4)) 172)) b (n*4) (frV fun _=>zF):=by
 refine Blk.new w _ _ _ _ _ hb (size_madeCells _ _) (fun i hi=>?_);rw[made_at hi];unfold frV;have h4:i%4=0∨i%4=1∨i%4=2∨i%4=3:=by omega
 show some (#[Value.int .u32 0,.int .u64 0,.int .i64 0,.bool false][i%4]!)=_
 rcases h4 with e|e|e|e<;>rw[e]<;>rfl
theorem mpi_new{b:Nat}(hb:b=w.heap.size):MpV prog 34 .u32 (.int .i64 0) (w.alloc (.map #[] 0)) b 0 (plV fun _=>none):=by
 subst hb;have e:plV (fun _=>none)=fun _=>none:=by funext x;unfold plV;split<;>rfl
 rw[e];exact MpV.made _ _ _ _ _
theorem mpi_drew{b c:Nat}{m:Int->Option Value}(h:MpV prog 34 .u32 (.int .i64 0) w b c m):MpV prog 34 .u32 (.int .i64 0) w.drew b c m:=h.ofHeap rfl
theorem ls_fr{bound:Nat}{S:Nat->Bool}{v:Value}{h:Nat->Nat}{L:Nat}(H:LS w bound S v h L)(f:Fr NoF w w'):LS w' bound S v h L:=⟨H.r.fr f (fun _ _ q=>q),H.dom⟩
theorem fr_no{a b c:World}(h:Fr NoF a b)(k:Fr NoF b c):Fr NoF a c:=h.trans k (fun _ q=>q.elim)
theorem pnew_fin{X:World}{n db fb mb pb loE hiE loI hiI:Nat}{rv ev iv:Value}{eh ih:Nat->Nat}{eL iL:Nat}(hw:Fr NoF w X)(hpb:pb=X.heap.size)(hn:1<=n∧n<=65535)(ht:TabT w)
  (hf:Blk X fb (n*4) (frV fun _=>zF))(hm:MpV prog 34 .u32 (.int .i64 0) X mb 0 (plV fun _=>none))(he:LS X n (belowB n) ev eh eL)(hi:LS X n noneB iv ih iL)
  (b1:∀k,LF ev eh eL k->loE<=k∧k<hiE)(b2:∀k,LF iv ih iL k->loI<=k∧k<hiI)(d1:¬fb=mb∧w.heap.size<=fb∧w.heap.size<=mb∧w.heap.size<=loE∧w.heap.size<=loI)(d2:hiE<=loI∨hiI<=loE)(d3:(fb<loE∨hiE<=fb)∧(fb<loI∨hiI<=fb)∧(mb<loE∨hiE<=mb)∧(mb<loI∨hiI<=mb)):
  MP (X.alloc (.cells #[.pointer (some ⟨db,0,none⟩),rv,.slice (some ⟨fb,0,none⟩) n n,.map (some mb),.int .i64 n,.int .i64 n,ev,.int .i64 n,.int .i64 0,iv,.int .i64 0] 117)) ⟨n,pb,db,fb,mb,rv,ev,eh,eL,iv,ih,iL⟩ (fun _=>zF) (fun _=>none) (belowB n) noneB 0 0∧
  (∀i,(PP.mk n pb db fb mb rv ev eh eL iv ih iL).own i->w.heap.size<=i)∧Fr NoF w (X.alloc (.cells #[.pointer (some ⟨db,0,none⟩),rv,.slice (some ⟨fb,0,none⟩) n n,.map (some mb),.int .i64 n,.int .i64 n,ev,.int .i64 n,.int .i64 0,iv,.int .i64 0] 117)):=by
 have fz:=(Fr.refl NoF X).alloc (.cells #[.pointer (some ⟨db,0,none⟩),rv,.slice (some ⟨fb,0,none⟩) n n,.map (some mb),.int .i64 n,.int .i64 n,ev,.int .i64 n,.int .i64 0,iv,.int .i64 0] 117);have lf:=hf.lt;have lm:=hm.lt;have le:=he.r.lt;have li:=hi.r.lt;have hs:=hw.size;have htl:=ht.lt
 have howns:∀i,(PP.mk n pb db fb mb rv ev eh eL iv ih iL).own i->w.heap.size<=i:=fun i q=>by
  rcases q with q|q|q|q|q
  .have q':i=pb:=q;omega
  .have q':i=fb:=q;omega
  .have q':i=mb:=q;omega
  .have:=b1 i q;omega
  .have:=b2 i q;omega
 refine⟨⟨Blk.new X _ _ 11 _ _ hpb rfl (fun i hi=>?_),hf.fr fz (fun q=>q),⟨0,Nat.le_refl _,hm.fr fz (fun q=>q)⟩,ls_fr he fz,ls_fr hi fz,⟨by show¬fb=pb;omega,by show¬mb=pb;omega,by show¬mb=fb;omega⟩,fun i q=>?_,fun i q=>?_,(ht.fr0 hw).fr0 fz,fun q=>by have:=howns _ q;omega,Nat.le_refl _,fun i=>⟨by show 0<_;omega,by show 0<_;omega,by show 0<=0;omega⟩⟩,howns,fr_no hw fz⟩
 .have e1:cntB (belowB n) n=n:=cntB_below n n (Nat.le_refl _)
  have e2:cntB noneB n=0:=(cnt_none n noneB).2 (by
   cases e:fstB n noneB with
   |none=>rfl
   |some x=>have:=(fstB_some e).2.1;cases this)
  show _=some (pH _ (cntB (belowB n) n) (cntB noneB n) 0 i)
  rw[e1,e2]
  match i,hi with
  |0,_|1,_|2,_|3,_|4,_|5,_|6,_|7,_|8,_|9,_|10,_=>rfl
 .have q':LF ev eh eL i:=q
  have r1:=b1 i q';have r2:=le i q';refine⟨by show¬i=pb;omega,by show¬i=fb;omega,by show¬i=mb;omega,fun k=>?_⟩;have r3:=b2 i k;omega
 .have q':LF iv ih iL i:=q
  have r1:=b2 i q';have r2:=li i q';exact⟨by show¬i=pb;omega,by show¬i=fb;omega,by show¬i=mb;omega⟩
theorem pnew_step{X:World}{n db fb mb loE hiE loI hiI:Nat}{rv ev iv:Value}{eh ih:Nat->Nat}{eL iL:Nat}{Post:Ending->World->Prop}(hw:Fr NoF w X)(hn:1<=n∧n<=65535)(ht:TabT w)
  (hf:Blk X fb (n*4) (frV fun _=>zF))(hm:MpV prog 34 .u32 (.int .i64 0) X mb 0 (plV fun _=>none))(he:LS X n (belowB n) ev eh eL)(hi:LS X n noneB iv ih iL)
  (b1:∀k,LF ev eh eL k->loE<=k∧k<hiE)(b2:∀k,LF iv ih iL k->loI<=k∧k<hiI)(d1:¬fb=mb∧w.heap.size<=fb∧w.heap.size<=mb∧w.heap.size<=loE∧w.heap.size<=loI)(d2:hiE<=loI∨hiI<=loE)(d3:(fb<loE∨hiE<=fb)∧(fb<loI∨hiI<=fb)∧(mb<loE∨hiE<=mb)∧(mb<loI∨hiI<=mb))
  (h:∀XW (p:PP),(p.n=n∧p.db=db∧p.rv=rv∧p.pb=X.heap.size∧p.mb=mb)->MP XW p (fun _=>zF) (fun _=>none) (belowB n) noneB 0 0->(∀i,p.own i->w.heap.size<=i)->Fr NoF w XW->Calls prog 12 #[.pointer (some ⟨db,0,none⟩)] XW Post):
  Calls prog 12 #[.pointer (some ⟨db,0,none⟩)] (X.alloc (.cells #[.pointer (some ⟨db,0,none⟩),rv,.slice (some ⟨fb,0,none⟩) n n,.map (some mb),.int .i64 n,.int .i64 n,ev,.int .i64 n,.int .i64 0,iv,.int .i64 0] 117)) Post:=by
 obtain⟨q1,q2,q3⟩:=pnew_fin (db:=db) (rv:=rv) hw rfl hn ht hf hm he hi b1 b2 d1 d2 d3;exact h _ _ ⟨rfl,rfl,rfl,rfl,rfl⟩ q1 q2 q3
def plK(ids:List Nat)(k:Nat):Nat->Option Int:=fun id=>if id∈ids.take k then some (-1)else none
theorem plK_0(ids:List Nat):plK ids 0=fun _=>none:=by funext x;simp[plK]
theorem mem_take(ids:List Nat){k:Nat}(hk:k<ids.length)(y:Nat):y∈ids.take (k+1)↔y∈ids.take k∨y=ids[k]:=by
 rw[List.take_add_one,List.mem_append];simp[hk]
theorem plK_next(ids:List Nat){k:Nat}(hk:k<ids.length):updO (plK ids k) ids[k] (some (-1))=plK ids (k+1):=by
 funext y
 by_cases e:y=ids[k]
 .rw[e,updO_same]
  unfold plK;rw[if_pos ((mem_take ids hk _).2 (.inr rfl))]
 .rw[updO_other _ _ e]
  unfold plK;by_cases q:y∈ids.take k
  .rw[if_pos q,if_pos ((mem_take ids hk y).2 (.inl q))]
  .rw[if_neg q,if_neg (fun h=>((mem_take ids hk y).1 h).elim q e)]
theorem drew_size(w:World):w.drew.heap.size=w.heap.size:=rfl
theorem plK_all(ids:List Nat):plK ids ids.length=fun id=>if id∈ids then some (-1)else none:=by funext y;unfold plK;rw[List.take_length]
theorem pnew_made(n db:Nat){rv:Value}{it:TypeId}{iv0:Value}(hrv:rv=.iface it iv0)(w:World)(hn:1<=n∧n<=65535)(ht:TabT w){ids:List Nat}(hil:ids.length<=1000)(hid:∀x∈ids,x<4294967296)(hP:∀W,Fr NoF w W->Calls prog 12 #[.pointer (some ⟨db,0,none⟩)] W fun e w'=>∃v,e=.returned v∧OwK .u32 W.heap.size 34 w' v ids∧Fr NoF W w'):
  Calls prog 19 #[.pointer (some ⟨db,0,none⟩),.int .i64 n,rv] w fun e w'=>∃p:PP,p.n=n∧p.db=db∧p.rv=rv∧e=.returned (.tuple #[p.ptr,.int .i64 0])∧MP w' p (fun _=>zF) (fun id=>if id∈ids then some (-1)else none) (belowB n) noneB 0 1000∧(∀i,p.own i->w.heap.size<=i)∧Fr NoF w w':=by
 subst hrv;obtain⟨i0,hi0,hz0,hz1,hz2⟩:=info_parts' (P:=prog) (e:=172) (z:=.agg #[.int .u32 0,.int .u64 0,.int .i64 0,.bool false]) (s:=4) (b:=32) (by kernel_rfl)
 have mk1:∀(w:World),(Instr.makeSlice 110 (.int .i64 (n:Int)) (.int .i64 (n:Int))).run prog w=
   .ok (.slice (some ⟨w.heap.size,0,none⟩) n n) (w.alloc (.cells (madeCells #[.int .u32 0,.int .u64 0,.int .i64 0,.bool false] (n*4)) 172)):=by
  intro w;have:=run_make (P:=prog) w 110 172 i0 _ underlying110 hi0 hz0 .i64 .i64 (n:Int) (n:Int) (by omega) (Int.le_refl _) (by rw[hz2];omega) (by omega);rw[show(n:Int).toNat=n from by omega,hz1]at this;exact this
 have hmm:=@run_makeMap prog;have g1:decide ((n:Int)<1)=false:=by simp;omega
 have g2:decide (65535<(n:Int))=false:=by simp;omega
 have HNN:=Hd hn;have HP:=Hd hP;have HT:=Hd ht;have HID:=Hd hid;clear hi0 hz0 hz1 hz2 hn hP ht hid;go_enter func19,ntmps19
 go_upto_region 3 with fail
 clear g1 g2
 go_region_held3(fun w'=>True)
  (trivial)
  (first
  |(go_at_call 35;(refine(full_at n _ HNN.out.1 HNN.out.2).mono ?_);rintro e wE⟨ev,eh,eL,loE,hiE,zE1,zE2,rfl,k1,k2,fE⟩;have K1:=Hd k1;have K2:=Hd k2;have FE:=Hd fE;have ZE1:=Hd zE1;have ZE2:=Hd zE2;clear k1 k2 fE zE1 zE2)
  |(go_at_call 36;(refine(empty_at n _ HNN.out.1 HNN.out.2).mono ?_);rintro e wI⟨iv,ih,iL,loI,hiI,zI1,zI2,rfl,k3,k4,fI⟩;have K3:=Hd k3;have K4:=Hd k4;have FI:=Hd fI;have ZI1:=Hd zI1;have ZI2:=Hd zI2;clear k3 k4 fI zI1 zI2))
 all_goals
  go_wp2_with fail
  have a1:=ZE1.out;have a2:=ZE2.out;have a3:=ZI1.out;have a4:=ZI2.out;have a5:=FE.out.size;have a6:=FI.out.size
  (try simp only[alloc_size,drew_size]at a1)
  (try simp only[alloc_size,drew_size]at a2)
  (try simp only[alloc_size,drew_size]at a3)
  (try simp only[alloc_size,drew_size]at a4)
  (try simp only[alloc_size,drew_size]at a5)
  (try simp only[alloc_size,drew_size]at a6)
  refine pnew_step
   (by repeat(first|(with_reducible exact Fr.refl NoF _)|(with_reducible refine Fr.alloc ?_ _)|(with_reducible refine Fr.drew ?_)|(with_reducible refine fr_no ?_ FE.out)|(with_reducible refine fr_no ?_ FI.out)))
   HNN.out HT.out
   (by repeat(first|((with_reducible refine frV_made ?_);first|rfl|(simp only[alloc_size];done)|simp)|(with_reducible refine Blk.alloc ?_ _)|(with_reducible refine Blk.drew ?_)|(with_reducible refine Blk.fr ?_ FE.out (fun q=>q))|(with_reducible refine Blk.fr ?_ FI.out (fun q=>q))))
   (by repeat(first|((with_reducible refine mpi_new ?_);first|rfl|(simp only[alloc_size];done)|simp)|(with_reducible refine MpV.alloc ?_ _)|(with_reducible refine mpi_drew ?_)|(with_reducible refine MpV.fr ?_ FE.out (fun q=>q))|(with_reducible refine MpV.fr ?_ FI.out (fun q=>q))))
   (ls_fr K1.out (by repeat(first|(with_reducible exact Fr.refl NoF _)|(with_reducible refine Fr.alloc ?_ _)|(with_reducible refine Fr.drew ?_)|(with_reducible refine fr_no ?_ FI.out))))
   (ls_fr K3.out (by repeat(first|(with_reducible exact Fr.refl NoF _)|(with_reducible refine Fr.alloc ?_ _)|(with_reducible refine Fr.drew ?_)|(with_reducible refine fr_no ?_ FE.out))))
   K2.out K4.out
   (by omega) (by omega) (by omega) ?_
  rintro XW p⟨hpn,hpd,hpr,hpb,hpm⟩hmp hown hfr
  (try simp only[alloc_size,drew_size]at hpb)
  (try simp only[alloc_size,drew_size]at hpm)
  have HPN:=Hd hpn;have HPD:=Hd hpd;have HPR:=Hd hpr;have HPB:=Hd hpb;have HPM:=Hd hpm;clear hpn hpd hpr hpb hpm;have HM:=Hd hmp;have HW:=Hd hown;have HF:=Hd hfr;have hs0:=hfr.size;clear hmp hown hfr a1 a2 a3 a4 a5 a6 FE FI K1 K2 K3 K4 ZE1 ZE2 ZI1 ZI2;refine(HP.out XW HF.out).mono ?_;rintro e w4⟨v,rfl,ho,f4⟩;have HO:=Hd ho;have F4:=Hd f4;obtain⟨sa,sc,rfl,s1,s2⟩:=SlK.shape ho.sl;have HSC:=Hd s2;have hmp4:=HM.out.fr0 f4;have ho2:=ho;clear ho f4 s2;have hbase:=ho2.base;have hmbx:p.mb<XW.heap.size:=HM.out.lt _ (.inr (.inr (.inl rfl)));have HMP4:=Hd hmp4;have HBX:=Hd (show∀b,(Value.slice sa ids.length sc).ownBlock=some b->¬b=p.mb from fun b q e=>by have:=hbase b q;omega);clear hmp4 ho2 hbase hmbx
  go_wp2_with fail
  go_loopw [39] (fun i wr=>∃k:Nat,k<=ids.length∧i=.int .i64 k∧MP wr p (fun _=>zF) (plK ids k) (belowB n) noneB 0 k∧Fr (fun i=>i=p.mb) w4 wr) (fun i _=>ids.length-(intOf i).toNat)
  case atStart=>exact⟨0,Nat.zero_le _,rfl,by rw[plK_0];exact HMP4.out,Fr.refl _ _⟩
  case round=>
   obtain⟨k,hk,rfl,hm5,f5⟩:=hrel;have HM5:=Hd hm5;have F5:=Hd f5;have c3:wr.cell? ⟨p.pb,3,none⟩=some (.map (some p.mb)):=hm5.ce 3 (by omega);have l5:=hm5.hd.lt;rw[HPB.out,HPM.out]at c3;rw[HPB.out]at l5;by_cases hlt:k<ids.length
   .obtain⟨b,off,c,ev5,q1,q2,q3,q4⟩:=(SlK.fr HO.out.sl f5 (fun b q e=>HBX.out b q e)).at hlt
    simp only[Value.slice.injEq]at ev5;obtain⟨rfl,_,rfl⟩:=ev5;obtain⟨w6,r6,h6,g6⟩:=hm5.put (by omega) (HID.out _ (List.getElem_mem hlt)) (-1);rw[plK_next ids hlt]at h6;rw[HPM.out]at r6;have H6:=Hd h6;have G6:=Hd g6;generalize ids[k]=idk at*;clear hm5 f5 h6 g6;go_wp2
    go_roundw
    case rel=>exact⟨k+1,by omega,by go_num,H6.out,F5.out.trans G6.out (fun i q=>.inl q)⟩
    case measure=>simp[intOf];omega
   .obtain rfl:k=ids.length:=by omega
    clear hm5 f5;go_wp2;go_returns;refine⟨p,HPN.out,HPD.out,HPR.out,by unfold PP.ptr;rw[HPB.out];rfl,by rw[<-plK_all];exact HM5.out.more (by omega),HW.out,?_⟩;refine(HF.out.trans F4.out (fun _ q=>q.elim)).trans F5.out (fun i q=>.inr (by rw[q];exact HW.out _ (.inr (.inr (.inl rfl)))))
end
theorem emB_zero(n:Nat):emB n (fun _=>zF)=belowB n:=by funext i;unfold emB belowB;simp[zF]
theorem idB_zero(n:Nat):idB n (fun _=>zF)=noneB:=by funext i;unfold idB noneB;simp[zF]
theorem plO_zero(n:Nat)(r:RS)(h0:r.has 0=false):plO n (fun _=>zF) r=fun id=>if id∈r.L.map (·.1)then some (-1)else none:=by
 funext id
 unfold plO;by_cases h:r.has id=true
 .rw[if_pos h,if_pos (show id∈r.L.map (·.1)from(r.has_iff id).1 h),frm_eq_none (fun i hi q=>by rw[<-q]at h;rw[show(zF.id)=0 from rfl,h0]at h;cases h)]
  rfl
 .rw[if_neg h,if_neg (show¬id∈r.L.map (·.1)from fun q=>h ((r.has_iff id).2 q))]
theorem pnew_pw{τ:Type}{RR:World->τ->(Nat->Prop)->Prop}{ok:Nat->τ->(Nat->Nat)->(Nat->Bool)->Prop}{a:τ}{n db m0:Nat}{r:RS}{rv iv0:Value}{it:TypeId}{w:World}{FD FA:Nat->Prop}(hcd:CD db r m0 w FD)(hm0:m0<=1000)(hrr:RR w a FA)(hfr:∀{w w':World},RR w a FA->Fr NoF w w'->RR w' a FA)(hlt:∀i,FA i->i<w.heap.size)
  (hs:∀i,FD i->¬FA i)(ht:TabT w)(ht1:¬FD 0∧¬FA 0)(hrv:rv=.iface it iv0)(hn:1<=n∧n<=65535)(hL:r.L.length<=1000)(hI:Inv n (fun _=>zF) r)(hok:ok 1000 a (fun _=>0) (fun _=>true)):
  Calls prog 19 #[.pointer (some ⟨db,0,none⟩),.int .i64 n,rv] w fun e w'=>∃p:PP,p.n=n∧p.db=db∧p.rv=rv∧e=.returned (.tuple #[p.ptr,.int .i64 0])∧(∃F,PW RR ok p ⟨fun _=>zF,r,a,0⟩ 1000 w' F∧(∀i,F i->FD i∨FA i∨w.heap.size<=i))∧Fr NoF w w':=by
 have hroom:=hcd.room
 have hh0:r.has 0=false:=by
  cases e:r.has 0 with
  |false=>rfl
  |true=>have:=hI.pos e;omega
 refine(pnew_made n db hrv w hn ht (ids:=r.L.map (·.1)) (by rw[List.length_map];exact hL) (fun x hx=>by
  obtain⟨y,hy,rfl⟩:=List.mem_map.1 hx;have:=hcd.ids y hy;omega) (fun W hW=>cd_pages (hcd.fr0 hW))).mono ?_
 rintro e w'⟨p,h1,h2,h3,he,hmp,hown,hf⟩;refine⟨p,h1,h2,h3,he,⟨fun i=>p.own i∨FD i∨FA i,⟨⟨FD,FA,⟨?_,by rw[h2];exact(hcd.fr0 hf).more hm0,hfr hrr hf,fun i q=>⟨fun k=>?_,fun k=>?_⟩,hs,ht1⟩,fun i=>Iff.rfl⟩,by rw[h1];exact hI,hok⟩,fun i q=>?_⟩,hf⟩
 .show MP w' p (fun _=>zF) (plO p.n (fun _=>zF) r) (emB p.n (fun _=>zF)) (idB p.n (fun _=>zF)) 0 1000
  rw[emB_zero,idB_zero,plO_zero p.n r hh0,h1];exact hmp
 .have:=hown i q;have:=hcd.lt i k;omega
 .have:=hown i q;have:=hlt i k;omega
 .rcases q with q|q|q
  .exact .inr (.inr (hown i q))
  .exact .inl q
  .exact .inr (.inl q)
end
section
open Go.Maps Go.RowKit
def NewRep(n:Nat)(q:Bool)(rv:Value)(w:World)(F:Nat->Prop):Prop:=
 (∃it iv,rv=.iface it iv)∧∃(τ:Type) (P:Adv τ) (RR:World->τ->(Nat->Prop)->Prop) (ok:Nat->τ->(Nat->Nat)->(Nat->Bool)->Prop) (s:τ),(∀pb,RepSys P RR pb rv n ok)∧RR w s F∧ok 1000 s (fun _=>0) (fun _=>true)∧(q=true->Good0 P n ok)
theorem inv_0(n:Nat){room:Nat}(h:room<=65535):Inv n (fun _=>zF) ⟨room,[],[],[],0,0,false,0⟩:=by
 refine⟨fun i hi h=>rfl,fun i hi h=>absurd rfl h,fun i j hi hj h=>absurd rfl h,⟨dk0 room,?_⟩,fun x hx=>(by cases hx),fun i hi=>by decide⟩;exact⟨rfl,rfl,rfl,rfl,rfl,fun q=>(by cases q),fun id _ _=>rfl,fun id _ _=>rfl,Nat.zero_le _⟩
end
end Go.Proofs.YtoenclhimbpfeaaGreatDoor
