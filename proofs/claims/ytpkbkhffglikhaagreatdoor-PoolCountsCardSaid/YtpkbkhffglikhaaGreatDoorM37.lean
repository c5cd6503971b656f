/- Part 37. -/
import Derived.Test.YtpkbkhffglikhaaGreatDoorM14
import Derived.Test.YtpkbkhffglikhaaGreatDoorM36
namespace Go.Proofs.YtpkbkhffglikhaaGreatDoor
set_option linter.all false
set_option maxHeartbeats 16000000
set_option maxRecDepth 100000
section
open Go.RowKit
structure Ok5(n:Nat)(m:Nat)(s:LK)(pg:Nat->Nat)(ev:Nat->Bool):Prop where
 en:s.n=n
 T:s.T<=m
 g:s.gone<=m
 f1:∀f,f<n->(s.fr f).1=!decide (pg f=0)
 f2:∀f,f<n->¬pg f=0->(s.fr f).2=pg f
 R:∀f,(s.R f).isSome=true↔Goer n pg ev f
 t:s.t=cntR s.R s.n
 O:∀f,f<n->¬pg f=0->∀p∈s.Old,¬p.1=pg f
 ij:∀f g,f<n->g<n->¬pg f=0->pg f=pg g->f=g
def ok5(n:Nat)(m:Nat)(s:LK)(pg:Nat->Nat)(ev:Nat->Bool):Prop:=Ok5 n m s pg ev
theorem goes_noP{s:LK}{id:Nat}(h0:¬s.t=0)(q:¬∃x,Goes s x):polL.victim s id=none:=by
 unfold polL
 dsimp only
 rw[if_neg h0,dif_neg q]
theorem goes_exP{s:LK}{z:Nat}(hn:∀x,(s.R x).isSome=true->x<s.n)(hzs:(s.R z).isSome=true):∃x,Goes s x:=by
 by_cases hf:∃y,(farK s.R (farOf s) y).isSome=true
 .obtain⟨y,hy⟩:=hf
  obtain⟨x,hx⟩:=leastK_ex (farK s.R (farOf s)) s.n (λx q=>hn x (by unfold farK at q;split at q;exact q;cases q)) hy;exact⟨x,.inl hx⟩
 .have hall:∀y,farK s.R (farOf s) y=none:=λy=>by
   cases e:farK s.R (farOf s) y with
   |none=>rfl
   |some p=>exact(hf ⟨y,by rw[e];rfl⟩).elim
  have hfz:(freshK s.R (farOf s) z).isSome=true:=by
   have h1:=hall z;unfold farK at h1;unfold freshK
   cases e:farOf s z with
   |true=>rw[e,if_pos rfl]at h1;rw[h1]at hzs;cases hzs
   |false=>exact hzs
  obtain⟨x,hx⟩:=leastK_ex (freshK s.R (farOf s)) s.n (λx q=>hn x (by
   unfold freshK at q
   split at q
   .cases q
   .exact q)) hfz
  exact⟨x,.inr ⟨hall,hx⟩⟩
section
variable{n m k id:Nat}{s s':LK}{pg pg':Nat->Nat}{ev ev':Nat->Bool}
theorem Ok5.lt(h:Ok5 n m s pg ev){x:Nat}(q:(s.R x).isSome=true):x<n:=((h.R x).1 q).1
theorem Ok5.rank(h:Ok5 n m s pg ev)(e1:s'.n=s.n)(e2:s'.T<=m+1)(e3:s'.gone=s.gone)(e4:s'.fr=s.fr)(e5:∀x,(s'.R x).isSome=(s.R x).isSome)(e6:s'.t=s.t)(e7:∀p∈s'.Old,p∈s.Old):Ok5 n (m+1) s' pg ev:=by
 refine⟨by rw[e1];exact h.en,e2,by have:=h.g;omega,λf hf=>by rw[e4];exact h.f1 f hf,λf hf=>by rw[e4];exact h.f2 f hf,λf=>by rw[e5];exact h.R f,?_,λf hf q p hp=>h.O f hf q p (e7 p hp),h.ij⟩;rw[e6,h.t,e1]
 have:∀j,cntR s.R j=cntR s'.R j:=λj=>by
  induction j with
  |zero=>rfl
  |succ j ih=>unfold cntR;rw[ih,e5]
 exact this _
theorem goer_same(hpg:∀i,i<n->pg i=pg' i)(hev:∀i,i<n->¬pg i=0->ev i=ev' i)(x:Nat):Goer n pg ev x↔Goer n pg' ev' x:=by
 unfold Goer;constructor
 .rintro⟨a,b,c⟩;exact⟨a,by rw[<-hpg x a];exact b,by rw[<-hev x a b];exact c⟩
 .rintro⟨a,b,c⟩
  have b':¬pg x=0:=by rw[hpg x a];exact b
  exact⟨a,b',by rw[hev x a b'];exact c⟩
theorem acc_f(s:LK)(k id:Nat):(accS s k id).n=s.n/\(accS s k id).T=s.T+1/\(accS s k id).gone=s.gone/\(accS s k id).t=s.t/\(accS s k id).fr=(comS s k id).fr/\(accS s k id).Old=(comS s k id).Old/\∀x,((accS s k id).R x).isSome=(s.R x).isSome:=by
 have hR:∀(S:LK) (x:Nat),((rerS S k).R x).isSome=(S.R x).isSome:=λS x=>by
  unfold rerS
  split
  .rename_i q
   show(updKK S.R k _ x).isSome=_
   by_cases c:x=k
   .subst c;rw[updK_sameK];rw[q];rfl
   .rw[updK_otherK _ _ c]
  .rfl
 have hr:∀S:LK,(rerS S k).n=S.n/\(rerS S k).T=S.T/\(rerS S k).gone=S.gone/\(rerS S k).t=S.t/\(rerS S k).fr=S.fr/\(rerS S k).Old=S.Old:=λS=>by
  unfold rerS;split<;>exact⟨rfl,rfl,rfl,rfl,rfl,rfl⟩
 have hc:(comS s k id).n=s.n/\(comS s k id).T=s.T/\(comS s k id).gone=s.gone/\(comS s k id).t=s.t/\(comS s k id).R=s.R:=by
  unfold comS;split<;>exact⟨rfl,rfl,rfl,rfl,rfl⟩
 unfold accS;obtain⟨r1,r2,r3,r4,r5,r6⟩:=hr (touS (comS s k id) ((comS s k id).fr k).2);obtain⟨c1,c2,c3,c4,c5⟩:=hc;refine⟨r1.trans c1,r2.trans (by show(comS s k id).T+1=_;rw[c2]),r3.trans c3,r4.trans c4,r5,r6,λx=>?_⟩;rw[hR]
 show((comS s k id).R x).isSome=_
 rw[c5]
theorem woO_memQ{l:List (Nat×Nat)}{x:Nat}{p:Nat×Nat}:p∈woO l x↔p∈l/\¬p.1=x:=by
 unfold woO;rw[List.mem_filter];simp
end
theorem okS5(n:Nat):OkSys polL pre5 n (ok5 n) where
 more:=λ{m k s pg ev} h hk=>⟨h.en,Nat.le_trans h.T hk,Nat.le_trans h.g hk,h.f1,h.f2,h.R,h.t,h.O,h.ij⟩
 same:=λ{m s pg pg' ev ev'} h e1 e2=>⟨h.en,h.T,h.g,λf hf=>by rw[<-e1 f hf];exact h.f1 f hf,λf hf q=>by rw[<-e1 f hf]at q⊢;exact h.f2 f hf q,λf=>(h.R f).trans (goer_same e1 e2 f),h.t,λf hf q=>by rw[<-e1 f hf]at q⊢;exact h.O f hf q,λf g hf hg q e=>by rw[<-e1 f hf]at q e;rw[<-e1 g hg]at e;exact h.ij f g hf hg q e⟩
 pMiss:=λ_ _ _ _ _=>⟨λq=>(by cases q),λq=>(by cases q),λq=>(by cases q),λq=>(by cases q)⟩
 pAcc:=λ{m s pg ev id k} h hm _ h2 hk _=>⟨λ_=>⟨by show k<s.n;rw[h.en];exact hk,h2,by have:=h.T;show s.T<_;omega⟩,λq=>(by cases q),λq=>(by cases q),λq=>(by cases q)⟩
 pSet:=λ{m s pg ev k} b h hm hk hx=>⟨λq=>(by cases q),λ_=>⟨by show k<s.n;rw[h.en];exact hk,by show(s.fr k).1=true;rw[h.f1 k hk];simp[hx],by have:=h.T;show s.T<_;omega⟩,λq=>(by cases q),λq=>(by cases q)⟩
 pVic:=λ{m s pg ev id} h hm _ _ _=>⟨λq=>(by cases q),λq=>(by cases q),λ_=>⟨by have:=h.T;show s.T<_;omega,by have:=h.g;show s.gone+1<_;omega,λx hx=>by
  obtain⟨g1,g2,_⟩:=(h.R x).1 hx;exact⟨by rw[h.en];exact g1,oldK_none.2 (λp hp=>by rw[h.f2 x g1 g2];exact h.O x g1 g2 p hp)⟩⟩,λq=>(by cases q)⟩
 pRem:=λ{m s pg ev k} h hm hk hx=>⟨λq=>(by cases q),λq=>(by cases q),λq=>(by cases q),λ_=>⟨by show k<s.n;rw[h.en];exact hk,by show(s.fr k).1=true;rw[h.f1 k hk];simp[hx]⟩⟩
 okMiss:=λ{m s pg ev id} h _ _ _=>⟨h.en,Nat.le_succ_of_le h.T,Nat.le_succ_of_le h.g,h.f1,h.f2,h.R,h.t,h.O,h.ij⟩
 okNew:=λ{m s pg ev id k} h _ h1 _ hk h0 hn=>by
  obtain⟨a1,a2,a3,a4,a5,a6,a7⟩:=acc_f s k id;have hf:(s.fr k).1=false:=by rw[h.f1 k hk];simp[h0]
  have hc:comS s k id={s with fr:=updF s.fr k (true,id),Old:=woO s.Old id}:=by unfold comS;rw[hf];rfl
  rw[hc]at a5 a6;refine⟨by show(accS s k id).n=n;rw[a1];exact h.en,by show(accS s k id).T<=_;rw[a2];have:=h.T;omega,by show(accS s k id).gone<=_;rw[a3];exact Nat.le_succ_of_le h.g,λf hf=>?_,λf hf q=>?_,λf=>?_,?_,λf hf q p hp=>?_,λf g hf hg q e=>?_⟩
  .show((accS s k id).fr f).1=_
   rw[a5]
   show(updF s.fr k (true,id) f).1=_
   by_cases c:f=k
   .subst c;rw[updF_same,upd_same];simp;omega
   .rw[updF_other _ _ c,upd_other _ _ c];exact h.f1 f hf
  .show((accS s k id).fr f).2=_
   rw[a5]
   show(updF s.fr k (true,id) f).2=_
   by_cases c:f=k
   .subst c;rw[updF_same,upd_same]
   .rw[upd_other _ _ c]at q;rw[updF_other _ _ c,upd_other _ _ c];exact h.f2 f hf q
  .show((accS s k id).R f).isSome=true↔_
   rw[a7,h.R];unfold Goer;by_cases c:f=k
   .subst c;rw[upd_same,upd_same];exact⟨λq=>(q.2.1 h0).elim,λq=>(by cases q.2.2)⟩
   .rw[upd_other _ _ c,upd_other _ _ c]
  .show(accS s k id).t=cntR (accS s k id).R (accS s k id).n
   rw[a4,a1,h.t]
   have:∀j,cntR s.R j=cntR (accS s k id).R j:=λj=>by
    induction j with
    |zero=>rfl
    |succ j ih=>unfold cntR;rw[ih,a7]
   exact this _
  .have hp:p∈(accS s k id).Old:=hp
   rw[a6]at hp;obtain⟨p1,p2⟩:=woO_memQ.1 hp;by_cases c:f=k
   .subst c;rw[upd_same];exact p2
   .rw[upd_other _ _ c]at q⊢;exact h.O f hf q p p1
  .by_cases c:f=k
   .by_cases d:g=k
    .rw[c,d]
    .rw[c,upd_same,upd_other _ _ d]at e;exact(hn g hg e.symm).elim
   .by_cases d:g=k
    .rw[d,upd_same,upd_other _ _ c]at e;exact(hn f hf e).elim
    .rw[upd_other _ _ c]at q e;rw[upd_other _ _ d]at e;exact h.ij f g hf hg q e
 okOld:=λ{m s pg ev id k} h _ h1 hk h0=>by
  obtain⟨a1,a2,a3,a4,a5,a6,a7⟩:=acc_f s k id;have hf:(s.fr k).1=true:=by rw[h.f1 k hk];simp;omega
  have hc:comS s k id=s:=by unfold comS;rw[hf];rfl
  rw[hc]at a5 a6;exact h.rank (s':={accS s k id with Fa:=λ_=>false}) a1 (by show(accS s k id).T<=_;rw[a2];have:=h.T;omega) a3 a5 a7 a4 (λp hp=>by have hp:p∈(accS s k id).Old:=hp;rw[a6]at hp;exact hp)
 okSet:=λ{m s pg ev k} b h _ hk hx=>by
  have hks:k<s.n:=by rw[h.en];exact hk
  have hG:(s.R k).isSome=ev k:=by
   cases e:ev k with
   |true=>exact(h.R k).2 ⟨hk,hx,e⟩
   |false=>
    cases c:(s.R k).isSome with
    |false=>rfl
    |true=>have:=((h.R k).1 c).2.2;rw[e]at this;cases this
  show ok5 n (m+1) ({setS s k b with Fa:=λ_=>false}:LK) pg (upd ev k b)
  unfold setS;by_cases c:(s.R k).isSome=b
  .rw[if_pos c]
   refine⟨h.en,Nat.le_succ_of_le h.T,Nat.le_succ_of_le h.g,h.f1,h.f2,λf=>(h.R f).trans (goer_same (λ_ _=>rfl) (λi _ _=>?_) f),h.t,h.O,h.ij⟩;by_cases d:i=k
   .subst d;rw[upd_same,<-c,hG]
   .rw[upd_other _ _ d]
  .rw[if_neg c]
   have hR:∀(y:Option (Int×Int)),y.isSome=b->∀f,(updKK s.R k y f).isSome=true↔Goer n pg (upd ev k b) f:=λy hy f=>by
    by_cases d:f=k
    .subst d
     rw[updK_sameK,hy];unfold Goer;rw[upd_same];exact⟨λq=>⟨hk,hx,q⟩,λq=>q.2.2⟩
    .rw[updK_otherK _ _ d,h.R]
     unfold Goer;rw[upd_other _ _ d]
   cases b with
   |true=>
    rw[if_pos rfl];refine⟨h.en,Nat.le_succ_of_le h.T,Nat.le_succ_of_le h.g,h.f1,h.f2,hR _ rfl,?_,h.O,h.ij⟩
    show s.t+1=cntR (updKK s.R k _) s.n
    rw[cntR_put _ _ hks,h.t];have:(s.R k).isSome=false:=by simpa using c
    rw[this];rfl
   |false=>
    rw[if_neg (by simp)];refine⟨h.en,Nat.le_succ_of_le h.T,Nat.le_succ_of_le h.g,h.f1,h.f2,hR _ rfl,?_,h.O,h.ij⟩
    show s.t-1=cntR (updKK s.R k _) s.n
    rw[cntR_drop _ hks,h.t]
    have:(s.R k).isSome=true:=by
     cases e:(s.R k).isSome with
     |true=>rfl
     |false=>exact(c e).elim
    rw[this];rfl
 okRem:=λ{m s pg ev k} h _ hk hx=>by
  have hks:k<s.n:=by rw[h.en];exact hk
  show ok5 n (m+1) ({remvS s k with Fa:=λ_=>false}:LK) _ _
  unfold remvS;refine⟨h.en,Nat.le_succ_of_le h.T,Nat.le_succ_of_le h.g,λf hf=>?_,λf hf q=>?_,λf=>?_,?_,λf hf q p hp=>?_,λf g hf hg q e=>?_⟩
  .show(updF s.fr k _ f).1=_
   by_cases c:f=k
   .subst c;rw[updF_same,upd_same];rfl
   .rw[updF_other _ _ c,upd_other _ _ c];exact h.f1 f hf
  .show(updF s.fr k _ f).2=_
   by_cases c:f=k
   .subst c;rw[upd_same]at q;exact(q rfl).elim
   .rw[upd_other _ _ c]at q;rw[updF_other _ _ c,upd_other _ _ c];exact h.f2 f hf q
  .show(updKK s.R k none f).isSome=true↔_
   unfold Goer;by_cases c:f=k
   .subst c;rw[updK_sameK,upd_same];exact⟨λq=>(by cases q),λq=>(q.2.1 rfl).elim⟩
   .rw[updK_otherK _ _ c,upd_other _ _ c,upd_other _ _ c];exact h.R f
  .show lessN s.t (s.R k).isSome=cntR (updKK s.R k none) s.n
   rw[cntR_drop _ hks,h.t]
  .by_cases c:f=k
   .subst c;rw[upd_same]at q;exact(q rfl).elim
   .rw[upd_other _ _ c]at q⊢;exact h.O f hf q p hp
  .by_cases c:f=k
   .subst c;rw[upd_same]at q;exact(q rfl).elim
   .by_cases d:g=k
    .rw[d,upd_same]at e;exact(q e).elim
    .rw[upd_other _ _ c]at q e;rw[upd_other _ _ d]at e;exact h.ij f g hf hg q e
 goer:=λ{m s pg ev id x} h hv=>by
  have hv:polL.victim s id=some x:=hv;by_cases h0:s.t=0
  .have:polL.victim s id=none:=if_pos h0
   rw[this]at hv;cases hv
  .have hex:∃x,Goes s x:=by
    apply Classical.byContradiction;intro q
    have:polL.victim s id=none:=by
     show polL.victim s id=none
     exact goes_noP h0 q
    rw[this]at hv;cases hv
   obtain⟨y,hy⟩:=hex;rw[(goes_some (by omega) hy).1]at hv
   injection hv with hv
   subst hv;exact(h.R y).1 (LeastC.some hy)
 some:=λ{m s pg ev id} h ⟨x,hx⟩ hv=>by
  have hR:=(h.R x).2 hx;have h0:0<s.t:=by rw[h.t];exact cntR_pos _ (by rw[h.en];exact hx.1) hR
  obtain⟨y,hy⟩:=goes_exP (s:=s) (λx q=>by rw[h.en];exact h.lt q) hR;have hv:polL.victim s id=none:=hv;rw[(goes_some h0 hy).1]at hv
  cases hv
 okGone:=λ{m s pg ev id x} h _ h1 hn hv=>by
  have hv:polL.victim s id=some x:=hv
  have h0:¬s.t=0:=λh0=>by
   have:polL.victim s id=none:=if_pos h0;rw[this]at hv;cases hv
  have hex:∃x,Goes s x:=by
   apply Classical.byContradiction;intro q
   have:polL.victim s id=none:=by
    exact goes_noP h0 q
   rw[this]at hv;cases hv
  obtain⟨y,hy⟩:=hex;obtain⟨g1,g2⟩:=goes_some (page:=id) (show 0<s.t by omega) hy;rw[g1]at hv
  injection hv with hv
  subst hv;rw[g2];have hRy:=LeastC.some hy;obtain⟨b1,b2,b3⟩:=(h.R y).1 hRy;have hys:y<s.n:=by rw[h.en];exact b1
  obtain⟨v1,v2,v3,v4,_⟩:=vic_facts s y s.Fa
  have w1:(vicS s y s.Fa).n=s.n/\(vicS s y s.Fa).fr=updF s.fr y (false,(s.fr y).2)/\(vicS s y s.Fa).t=s.t-1/\∀p∈(vicS s y s.Fa).Old,p∈s.Old\/p.1=(s.fr y).2:=by
   unfold vicS remS
   split
   .refine⟨rfl,rfl,rfl,λp hp=>?_⟩
    have hp:p∈(s.Old++[((s.fr y).2,s.gone+1)]).tail:=hp;rcases List.mem_append.1 (List.mem_of_mem_tail hp)with q|q
    .exact .inl q
    .rw[List.mem_singleton.1 q];exact .inr rfl
   .refine⟨rfl,rfl,rfl,λp hp=>?_⟩
    have hp:p∈s.Old++[((s.fr y).2,s.gone+1)]:=hp;rcases List.mem_append.1 hp with q|q
    .exact .inl q
    .rw[List.mem_singleton.1 q];exact .inr rfl
  obtain⟨w1,w2,w3,w4⟩:=w1;refine⟨by show(vicS s y s.Fa).n=n;rw[w1];exact h.en,by show(vicS s y s.Fa).T<=_;rw[v2];exact Nat.le_succ_of_le h.T,by show(vicS s y s.Fa).gone<=_;rw[v4];have:=h.g;omega,λf hf=>?_,λf hf q=>?_,λf=>?_,?_,λf hf q p hp=>?_,λf g hf hg q e=>?_⟩
  .show((vicS s y s.Fa).fr f).1=_
   rw[w2];by_cases c:f=y
   .subst c;rw[updF_same,upd_same];rfl
   .rw[updF_other _ _ c,upd_other _ _ c];exact h.f1 f hf
  .show((vicS s y s.Fa).fr f).2=_
   rw[w2];by_cases c:f=y
   .subst c;rw[upd_same]at q;exact(q rfl).elim
   .rw[upd_other _ _ c]at q;rw[updF_other _ _ c,upd_other _ _ c];exact h.f2 f hf q
  .show((vicS s y s.Fa).R f).isSome=true↔_
   rw[v1];unfold Goer;by_cases c:f=y
   .subst c;rw[updK_sameK,upd_same];exact⟨λq=>(by cases q),λq=>(q.2.1 rfl).elim⟩
   .rw[updK_otherK _ _ c,upd_other _ _ c,upd_other _ _ c];exact h.R f
  .show(vicS s y s.Fa).t=cntR (vicS s y s.Fa).R (vicS s y s.Fa).n
   rw[w3,v1,w1,cntR_drop _ hys,h.t,hRy];rfl
  .have hp:p∈(vicS s y s.Fa).Old:=hp
   by_cases c:f=y
   .subst c;rw[upd_same]at q;exact(q rfl).elim
   .rw[upd_other _ _ c]at q⊢
    rcases w4 p hp with r|r
    .exact h.O f hf q p r
    .rw[r,h.f2 y b1 b2]
     exact λe=>c (h.ij f y hf b1 q e.symm)
  .by_cases c:f=y
   .subst c;rw[upd_same]at q;exact(q rfl).elim
   .by_cases d:g=y
    .rw[d,upd_same]at e;exact(q e).elim
    .rw[upd_other _ _ c]at q e;rw[upd_other _ _ d]at e;exact h.ij f g hf hg q e
theorem rep5(pb lb n:Nat):RepSys (advOf polL) (CR5 lb) pb (repV5 lb) n (ok5 n):=repOf (cod5 lb) (clo5 lb) (okS5 n)
end
end Go.Proofs.YtpkbkhffglikhaaGreatDoor
