/- Part 25. -/
import Derived.Test.YtcccbdnojlmgaaaK22
import Derived.Test.YtcccbdnojlmgaaaK24
namespace Go.Proofs.Ytcccbdnojlmgaaa
set_option linter.all false
set_option maxHeartbeats 16000000
set_option maxRecDepth 100000
section
open Go.Maps Go.RowKit
def farOf(S:LK):Nat->Bool:=fun x=>match S.R x with|some p=>decide (p.2<=(S.T:Int)-S.near)|none=>false
def Goes(S:LK)(x:Nat):Prop:=LeastC S.R (farOf S) x
theorem LeastK.one{K:Nat->Option (Int×Int)}{x y:Nat}(hx:LeastK K x)(hy:LeastK K y):x=y:=by
 obtain⟨a,b,h1,h2⟩:=hx;obtain⟨c,d,h3,h4⟩:=hy;have:=h2 y c d h3;have:=h4 x a b h1;omega
theorem LeastC.one{R:Nat->Option (Int×Int)}{Fb:Nat->Bool}{x y:Nat}(hx:LeastC R Fb x)(hy:LeastC R Fb y):x=y:=by
 rcases hx with hx|⟨hx,hx2⟩
 .rcases hy with hy|⟨hy,_⟩
  .exact hx.one hy
  .obtain⟨a,b,h,_⟩:=hx
   rw[hy x]at h;cases h
 .rcases hy with hy|⟨_,hy⟩
  .obtain⟨a,b,h,_⟩:=hy
   rw[hx y]at h;cases h
  .exact hx2.one hy
theorem far_same{R:Nat->Option (Int×Int)}{Fa Fb:Nat->Bool}(h:∀x,(R x).isSome=true->Fa x=Fb x):farK R Fa=farK R Fb:=by
 funext x
 unfold farK
 cases e:R x with
 |none=>simp
 |some p=>rw[h x (by rw[e];rfl)]
theorem fresh_same{R:Nat->Option (Int×Int)}{Fa Fb:Nat->Bool}(h:∀x,(R x).isSome=true->Fa x=Fb x):freshK R Fa=freshK R Fb:=by
 funext x
 unfold freshK
 cases e:R x with
 |none=>simp
 |some p=>rw[h x (by rw[e];rfl)]
theorem LeastC.same{R:Nat->Option (Int×Int)}{Fa Fb:Nat->Bool}(h:∀x,(R x).isSome=true->Fa x=Fb x){x:Nat}(hx:LeastC R Fa x):LeastC R Fb x:=by
 unfold LeastC at*;rw[<-far_same h,<-fresh_same h];exact hx
def FaOk(S:LK)(Fa:Nat->Bool):Prop:=∀x a b,S.R x=some (a,b)->Fa x=true->b<=(S.T:Int)-S.near
theorem aged_far{S:LK}{Fa Fb:Nat->Bool}(h:FaOk S Fa)(ha:Aged S.R Fa Fb ((S.T:Int)-S.near)):∀x,(S.R x).isSome=true->Fb x=farOf S x:=by
 intro x hx;unfold farOf
 cases e:S.R x with
 |none=>rw[e]at hx;cases hx
 |some p=>
  obtain⟨a,b⟩:=p;have h1:=ha x a b e;have h2:=h x a b e;simp only;by_cases hb:b<=(S.T:Int)-S.near
  .rw[h1.2 (.inr hb)];simp[hb]
  .have:Fb x≠true:=fun q=>(h1.1 q).elim (fun q=>hb (h2 q)) hb
   rw[Bool.eq_false_iff.2 this];simp[hb]
open Classical in
noncomputable def polL:Pol LK where
 miss s _:=s
 access s f id:={accS s f id with Fa:=fun _=>false}
 set s f on:={setS s f on with Fa:=fun _=>false}
 victim s _:=if s.t=0 then none else if h:∃x,Goes s x then some h.choose else none
 gone s _:=if h:∃x,Goes s x then{vicS s h.choose s.Fa with Fa:=fun _=>false}else s
 remove s f:={remvS s f with Fa:=fun _=>false}
 size s:=s.t
 ghosts s:=s.Old.map (·.1)
open Classical in
theorem goes_some{s:LK}{x page:Nat}(h0:0<s.t)(hx:Goes s x):polL.victim s page=some x∧polL.gone s page={vicS s x s.Fa with Fa:=fun _=>false}:=by
 have he:∃x,Goes s x:=⟨x,hx⟩;have e1:he.choose=x:=he.choose_spec.one hx;constructor
 .show(if s.t=0 then none else if h:∃x,Goes s x then some h.choose else none)=some x
  rw[if_neg (by omega),dif_pos he,e1]
 .show(if h:∃x,Goes s x then({vicS s h.choose s.Fa with Fa:=fun _=>false}:LK)else s)=_
  rw[dif_pos he,e1]
def CR5(lb:Nat)(w:World)(s:LK)(F:Nat->Prop):Prop:=s.gone<800000∧∃Fa,FaOk s Fa∧CRL w lb {s with Fa:=Fa} F
def pre5(s:LK)(c:Cl):Prop:=
 (c.kind=1->c.frame<s.n∧okN c.page∧s.T<900000)∧(c.kind=2->c.frame<s.n∧(s.fr c.frame).1=true∧s.T<1000000)∧
 (c.kind=3->s.T<1000000∧s.gone+1<800000∧∀x,(s.R x).isSome=true->x<s.n∧oldK s.Old (s.fr x).2=none)∧(c.kind=4->c.frame<s.n∧(s.fr c.frame).1=true)
theorem acc_Fa(s:LK)(Fa:Nat->Bool)(f p:Nat):accS {s with Fa:=Fa} f p={accS s f p with Fa:=(accS {s with Fa:=Fa} f p).Fa}:=by
 unfold accS rerS touS comS
 split<;>split<;>rfl
theorem set_Fa(s:LK)(Fa:Nat->Bool)(f:Nat)(on:Bool):setS {s with Fa:=Fa} f on={setS s f on with Fa:=(setS {s with Fa:=Fa} f on).Fa}:=by
 unfold setS
 split
 .rfl
 .split<;>rfl
theorem rer_ok{S:LK}{Fa:Nat->Bool}(h:FaOk S Fa)(f:Nat):FaOk (rerS S f) (rerS {S with Fa:=Fa} f).Fa:=by
 unfold rerS;by_cases hR:(S.R f).isSome=true
 case neg=>rw[if_neg hR,if_neg (show¬(S.R f).isSome=true from hR)];exact h
 case pos=>
  rw[if_pos hR,if_pos (show(S.R f).isSome=true from hR)];intro x a b hx hf;by_cases e:x=f
  .subst e
   have:updB1 Fa x false x=true:=hf;rw[updB1_same]at this
   cases this
  .have h1:S.R x=some (a,b):=by rw[<-updK_other S.R _ e];exact hx
   have h2:Fa x=true:=by rw[<-updB1_other Fa false e];exact hf
   exact h x a b h1 h2
theorem acc_ok{s:LK}{Fa:Nat->Bool}(h:FaOk s Fa)(f p:Nat):FaOk (accS s f p) (accS {s with Fa:=Fa} f p).Fa:=by
 have h1:FaOk (comS s f p) Fa:=by unfold comS;split<;>exact h
 have h2:FaOk (touS (comS s f p) ((comS s f p).fr f).2) Fa:=fun x a b hx hf=>by
  have:=h1 x a b hx hf
  show b<=(((comS s f p).T+1:Nat):Int)-(comS s f p).near
  omega
 have e:accS {s with Fa:=Fa} f p=rerS {touS (comS s f p) ((comS s f p).fr f).2 with Fa:=Fa} f:=by
  unfold accS comS
  split<;>rfl
 rw[e];exact rer_ok h2 f
theorem set_ok{s:LK}{Fa:Nat->Bool}(h:FaOk s Fa)(f:Nat)(on:Bool):FaOk (setS s f on) (setS {s with Fa:=Fa} f on).Fa:=by
 unfold setS;by_cases hR:(s.R f).isSome=on
 .rw[if_pos hR,if_pos (show(s.R f).isSome=on from hR)];exact h
 .rw[if_neg hR,if_neg (show¬(s.R f).isSome=on from hR)]
  cases on with
  |true=>
   intro x a b hx hf;by_cases e:x=f
   .subst e
    have:updB1 Fa x false x=true:=hf;rw[updB1_same]at this
    cases this
   .have h1:s.R x=some (a,b):=by rw[<-updK_other s.R _ e];exact hx
    have h2:Fa x=true:=by rw[<-updB1_other Fa false e];exact hf
    exact h x a b h1 h2
  |false=>
   intro x a b hx hf;by_cases e:x=f
   .subst e
    have:updK s.R x none x=some (a,b):=hx;rw[updK_same]at this
    cases this
   .have h1:s.R x=some (a,b):=by rw[<-updK_other s.R none e];exact hx
    exact h x a b h1 hf
theorem drop_ok{s:LK}{Fa:Nat->Bool}(h:FaOk s Fa)(f:Nat){S':LK}(hR:S'.R=updK s.R f none)(hT:S'.T=s.T)(hn:S'.near=s.near):FaOk S' Fa:=by
 intro x a b hx hf;rw[hR]at hx;rw[hT,hn];by_cases e:x=f
 .subst e;rw[updK_same]at hx;cases hx
 .rw[updK_other _ _ e]at hx;exact h x a b hx hf
theorem gone_acc(s:LK)(f p:Nat):(accS s f p).gone=s.gone:=by unfold accS rerS touS comS;split<;>split<;>rfl
theorem gone_set(s:LK)(f:Nat)(on:Bool):(setS s f on).gone=s.gone:=by
 unfold setS
 split
 .rfl
 .split<;>rfl
theorem vic_facts(s:LK)(x:Nat)(Fb:Nat->Bool):(vicS s x Fb).R=updK s.R x none∧(vicS s x Fb).T=s.T∧(vicS s x Fb).near=s.near∧(vicS s x Fb).gone=s.gone+1∧(vicS s x Fb).Fa=Fb∧∀Fc,vicS {s with Fa:=Fc} x Fb=vicS s x Fb:=by
 unfold vicS remS;refine⟨?_,?_,?_,?_,?_,fun Fc=>?_⟩
 .split<;>rfl
 .split<;>rfl
 .split<;>rfl
 .split<;>rfl
 .split<;>rfl
 .rfl
theorem v6'(s:LK)(x:Nat)(Fa Fb:Nat->Bool):vicS {s with Fa:=Fa} x Fb=vicS s x Fb:=rfl
theorem leastK_upto(K:Nat->Option (Int×Int)):∀m:Nat,(∀x,x<m->K x=none)∨∃x a b,x<m∧K x=some (a,b)∧∀y c d,y<m->K y=some (c,d)->a<c∨(a=c∧(b<d∨(b=d∧x<=y)))
 |0=>.inl (fun x h=>by omega)
 |m+1=>by
  cases e:K m with
  |none=>
   rcases leastK_upto K m with h|⟨x,a,b,hx,h1,h2⟩
   .exact .inl (fun x hx=>by
     by_cases q:x=m
     .rw[q];exact e
     .exact h x (by omega))
   .exact .inr ⟨x,a,b,by omega,h1,fun y c d hy hk=>by
     by_cases q:y=m
     .rw[q,e]at hk;cases hk
     .exact h2 y c d (by omega) hk⟩
  |some p=>
   obtain⟨u,v⟩:=p;rcases leastK_upto K m with h|⟨x,a,b,hx,h1,h2⟩
   .exact .inr ⟨m,u,v,by omega,e,fun y c d hy hk=>by
     by_cases q:y=m
     .subst q;rw[e]at hk;injection hk with hk;injection hk with h3 h4;omega
     .rw[h y (by omega)]at hk;cases hk⟩
   .by_cases hlt:u<a∨(u=a∧v<b)
    .exact .inr ⟨m,u,v,by omega,e,fun y c d hy hk=>by
      by_cases q:y=m
      .subst q;rw[e]at hk;injection hk with hk;injection hk with h3 h4;omega
      .have:=h2 y c d (by omega) hk
       omega⟩
    .exact .inr ⟨x,a,b,by omega,h1,fun y c d hy hk=>by
      by_cases q:y=m
      .subst q;rw[e]at hk;injection hk with hk;injection hk with h3 h4;omega
      .exact h2 y c d (by omega) hk⟩
theorem leastK_ex(K:Nat->Option (Int×Int))(n:Nat)(hn:∀x,(K x).isSome=true->x<n){z:Nat}(hz:(K z).isSome=true):∃x,LeastK K x:=by
 rcases leastK_upto K n with h|⟨x,a,b,hx,h1,h2⟩
 .rw[h z (hn z hz)]at hz;cases hz
 .exact⟨x,a,b,h1,fun y c d hk=>h2 y c d (hn y (by rw[hk];rfl)) hk⟩
theorem cntR_ex(R:Nat->Option (Int×Int)):∀{n:Nat},0<cntR R n->∃x,x<n∧(R x).isSome=true
 |n+1,h=>by
  unfold cntR at h;by_cases e:(R n).isSome=true
  .exact⟨n,by omega,e⟩
  .rw[if_neg e]at h
   obtain⟨x,h1,h2⟩:=cntR_ex R (n:=n) (by omega);exact⟨x,by omega,h2⟩
theorem goes_ex{w:World}{lb:Nat}{s:LK}{Fa:Nat->Bool}{F:Nat->Prop}(h:CRL w lb {s with Fa:=Fa} F)(h0:0<s.t)(hn:∀x,(s.R x).isSome=true->x<s.n):∃x,Goes s x:=by
 obtain⟨fb,mb,q1,q2,q3,q4,ne,FC,F4,h,hF⟩:=h;have ht:s.t=cntR s.R s.n:=h.ok.tn;rw[ht]at h0;obtain⟨z,hz,hzs⟩:=cntR_ex s.R h0;by_cases hf:∃y,(farK s.R (farOf s) y).isSome=true
 .obtain⟨y,hy⟩:=hf
  obtain⟨x,hx⟩:=leastK_ex (farK s.R (farOf s)) s.n (fun x q=>hn x (by unfold farK at q;split at q;exact q;cases q)) hy;exact⟨x,.inl hx⟩
 .have hall:∀y,farK s.R (farOf s) y=none:=fun y=>by
   cases e:farK s.R (farOf s) y with
   |none=>rfl
   |some p=>exact(hf ⟨y,by rw[e];rfl⟩).elim
  have hfz:(freshK s.R (farOf s) z).isSome=true:=by
   have h1:=hall z;unfold farK at h1;unfold freshK
   cases e:farOf s z with
   |true=>rw[e,if_pos rfl]at h1;rw[h1]at hzs;cases hzs
   |false=>exact hzs
  obtain⟨x,hx⟩:=leastK_ex (freshK s.R (farOf s)) s.n (fun x q=>hn x (by
   unfold freshK at q
   split at q
   .cases q
   .exact q)) hfz
  exact⟨x,.inr ⟨hall,hx⟩⟩
theorem vic_irr(s:LK)(x:Nat)(Fb:Nat->Bool):vicS s x Fb={vicS s x s.Fa with Fa:=Fb}:=by
 unfold vicS remS
 split<;>rfl
theorem cod5(lb:Nat):CodSys polL (CR5 lb) lb pre5 where
 fr:=by
  rintro w w' s F G⟨hg,Fa,ho,h⟩f hd;exact⟨hg,Fa,ho,h.fr f hd⟩
 lt:=by
  rintro w s F⟨hg,Fa,ho,h⟩i q;exact h.lt i q
 miss:=by
  intro w s F c h hp hk;exact(lmiss_calls _ _ _).mono fun e w' ⟨he,hw⟩=>⟨he,F,hw▸h,hw▸Fr.refl _ _,fun i hi=>.inl hi⟩
 access:=by
  rintro w s F c⟨hg,Fa,ho,h⟩hp hk;obtain⟨h1,h2,h3⟩:=hp.1 hk;refine(crl_access h (at':=c.frame) (page:=c.page) h1 h2 h3).mono ?_;rintro e w'⟨he,F',hc,hf,hF⟩;rw[acc_Fa]at hc;exact⟨he,F',⟨by show(accS s c.frame c.page).gone<800000;rw[gone_acc];exact hg,_,acc_ok ho _ _,hc⟩,hf,hF⟩
 set:=by
  rintro w s F c⟨hg,Fa,ho,h⟩hp hk;obtain⟨h1,h2,h3⟩:=hp.2.1 hk;refine(crl_set h (at':=c.frame) h1 h2 h3 c.on).mono ?_;rintro e w'⟨he,F',hc,hf,hF⟩;rw[set_Fa]at hc;exact⟨he,F',⟨by show(setS s c.frame c.on).gone<800000;rw[gone_set];exact hg,_,set_ok ho _ _,hc⟩,hf,hF⟩
 victimNo:=by
  rintro w s F c⟨hg,Fa,ho,h⟩hp hk hv;obtain⟨h1,h2,h3⟩:=hp.2.2.1 hk;by_cases h0:s.t=0
  .exact(crl_victim_no h h0 _).mono fun e w' ⟨he,hf⟩=>⟨he,F,⟨hg,Fa,ho,h.fr hf (fun _ _ q=>q)⟩,hf.none,fun i q=>.inl q⟩
  .obtain⟨x,hx⟩:=goes_ex h (by omega) (fun x q=>(h3 x q).1)
   rw[(goes_some (by omega) hx).1]at hv
   cases hv
 victimYes:=by
  rintro w s F c a⟨hg,Fa,ho,h⟩hp hk hv;obtain⟨h1,h2,h3⟩:=hp.2.2.1 hk
  have h0:0<s.t:=by
   by_cases h0:s.t=0
   .have:polL.victim s c.page=none:=if_pos h0
    rw[this]at hv;cases hv
   .omega
  refine(crl_victim h h0 c.page h1 hg h3).mono ?_;rintro e w'⟨x,he,Fb,F',ha,hl,hc,hf,hF⟩;have hx:Goes s x:=hl.same (aged_far ho ha);obtain⟨e1,e2⟩:=goes_some (page:=c.page) h0 hx;rw[e1]at hv
  injection hv with hv
  subst hv;rw[e2];obtain⟨v1,v2,v3,v4,v5,v6⟩:=vic_facts s x s.Fa;rw[v6' s x Fa Fb,vic_irr]at hc;refine⟨he,F',⟨by show(vicS s x s.Fa).gone<800000;rw[v4];exact h2,Fb,?_,hc⟩,hf,hF⟩
  have hfb:FaOk s Fb:=fun z p q hz hq=>by
   have:=(ha z p q hz).1 hq;rcases this with q'|q'
   .exact ho z p q hz q'
   .exact q'
  exact drop_ok hfb x v1 v2 v3
 remove:=by
  rintro w s F c⟨hg,Fa,ho,h⟩hp hk;obtain⟨h1,h2⟩:=hp.2.2.2 hk;refine(crl_remove h (at':=c.frame) h1 h2).mono ?_;rintro e w'⟨he,F',hc,hf,hF⟩;exact⟨he,F',⟨hg,Fa,drop_ok ho c.frame rfl rfl rfl,hc⟩,hf,hF⟩
 size:=by
  rintro w s F⟨hg,Fa,ho,h⟩;have:=crl_size h;exact this
 ghosts:=by
  rintro w s F⟨hg,Fa,ho,h⟩;exact(crl_ghosts h hg).mono fun e w' ⟨v,he,hs,_,hf⟩=>⟨v,he,hs,hf⟩
end
end Go.Proofs.Ytcccbdnojlmgaaa
