/- Part 29. -/
import Derived.Test.YtpkbkhffglikhaaGreatDoorM28
import Derived.Test.YtpkbkhffglikhaaGreatDoorM14
namespace Go.Proofs.YtpkbkhffglikhaaGreatDoor
set_option linter.all false
set_option maxHeartbeats 16000000
set_option maxRecDepth 100000
section
open Go.Maps Go.Proofs.Tryz Go.RowKit
def pre8(n:Nat)(t:PrS)(c:Cl):Prop:=
 (c.kind=1->c.frame<n/\1<=c.page/\c.page<4294967296/\(t.pg c.frame=c.page\/t.pg c.frame=0/\∀f,f<n->¬t.pg f=c.page))/\
 (c.kind=2->c.frame<n/\¬t.pg c.frame=0)/\(c.kind=4->c.frame<n/\¬t.pg c.frame=0)
section
variable{w w':World}{b n m:Nat}{A:AP}{s:PrS}{i x f id:Nat}{y:En}{F:Nat->Prop}
theorem set_ok(h:PK n m s)(hm:PM n s)(hf:f<n)(hp:¬s.pg f=0)(u:Bool):PK n m {s with on:=upd s.on f u}/\PM n {s with on:=upd s.on f u}:=by
 refine⟨⟨h.hl,h.uq,h.el,h.ng,h.gl,h.n1⟩,⟨hm.pf,λg hg k=>?_⟩⟩;have h0:=hm.p0 g hg k;refine⟨h0.1,?_⟩
 show upd s.on f u g=false
 by_cases e:g=f
 .subst e;exact(hp h0.1).elim
 .rw[upd_other _ _ e];exact h0.2
theorem cr_access(h:CRP b n w s F)(hn:n<=30000)(ha:f<n)(h1:1<=id)(h2:id<4294967296)(hq:s.pg f=id\/s.pg f=0/\∀g,g<n->¬s.pg g=id):
  Calls prog 205 #[.pointer (some ⟨b,0,none⟩),.int .i64 f,.int .u32 id] w λe w'=>e=.returned (.tuple #[])/\CRP b n w' (s.access n f id) F/\Fr F w w':=by
 obtain⟨A,hA,hk,hm,hF⟩:=h;rcases hq with hq|⟨hq,hni⟩
 .obtain⟨k1,k2,k3,k4,i,x,e,hx,ef,ea⟩:=access_old hk hm ha hq h1
  refine(pa_touch hA hk hx ef hn id).mono λe w' ⟨he,h',hf⟩=>⟨he,⟨A,?_,k1,k2,hF⟩,hf.mono (λi q=>(hF i).2 q)⟩
  rw[ea];exact h'.pgs _
 .obtain⟨k1,k2,k3,k4⟩:=access_new hk hm ha hq h1 h2 hni
  have hof:=ofF_no hk hm hq;have hno:=ofF_none hof;have hon:=(hm.p0 f ha (no_K hk hm hq)).2;have hl:=empty_lt hk hm ha hq
  cases eg:s.ofG id with
  |none=>
   refine(pa_come0 hA hk ha hno (ofG_none eg) hon hl h2 hn).mono λe w' ⟨he,h',hf⟩=>⟨he,⟨A,?_,k1,k2,hF⟩,hf.mono (λi q=>(hF i).2 q)⟩
   have ea:s.access n f id={s with pg:=upd s.pg f id}.lay ⟨id,f,false,false,true⟩:=by unfold PrS.access;simp only[hof,eg]
   rw[ea]
   have eb:({s with pg:=upd s.pg f id}:PrS).lay ⟨id,f,false,false,true⟩={s.lay ⟨id,f,false,false,true⟩with pg:=upd s.pg f id}:=by
    unfold PrS.lay;split<;>rfl
   rw[eb];exact h'.pgs _
  |some i=>
   obtain⟨g,hg,g1,g2⟩:=ofG_some eg;have ea:s.access n f id=(({s with pg:=upd s.pg f id,goal:=min (s.goal+1) (max (n-1) 1)}.drop i).lay ⟨id,f,true,false,false⟩).cool n:=by unfold PrS.access;simp only[hof,eg]
   have hA2:=hA.pgs (upd s.pg f id);have hk2:PK n n {s with pg:=upd s.pg f id}:=⟨hk.hl,hk.uq,hk.el,hk.ng,hk.gl,hk.n1⟩;have hpk0:PK n n {s with pg:=upd s.pg f id,goal:=min (s.goal+1) (max (n-1) 1)}:=⟨hk.hl,hk.uq,hk.el,hk.ng,by have:=hk.gl;show 1<=min (s.goal+1) (max (n-1) 1)/\min (s.goal+1) (max (n-1) 1)<=_;omega,hk.n1⟩;have hd:=hpk0.drop (i:=i) (x:=g) hg
   have hpk:PK n n (({s with pg:=upd s.pg f id,goal:=min (s.goal+1) (max (n-1) 1)}.drop i).lay ⟨id,f,true,false,false⟩):=by
    refine hd.lay ⟨⟨by show(-1:Int)<=(f:Int);omega,by show(f:Int)<n;omega⟩,⟨h1,h2⟩,λq=>by have q:(f:Int)<0:=q;omega,λq=>rfl⟩ (by show(0:Int)<=f;omega) (λy hy=>⟨λq=>?_,λq=>hno y (List.mem_of_mem_eraseIdx hy) q⟩);have hyL:y∈s.L:=List.mem_of_mem_eraseIdx hy;obtain⟨k,hkk⟩:=List.getElem?_of_mem hy;have hkk:(s.L.eraseIdx i)[k]?=some y:=hkk;rw[eraseIdx_get]at hkk;have q:y.pg=id:=q
    split at hkk
    .have:=hk.uq i k g y hg hkk (.inl (by omega));omega
    .have:=hk.uq i (k+1) g y hg hkk (.inl (by omega));omega
   refine(pa_come1 hA2 hk2 ha hno hon hl h2 hg g1 g2 h1 hn hpk).mono λe w' ⟨he,h',hf⟩=>⟨he,⟨A,?_,k1,k2,hF⟩,hf.mono (λi q=>(hF i).2 q)⟩
   rw[ea];exact h'
theorem cr_set(h:CRP b n w s F)(hn:n<=30000)(ha:f<n)(hp:¬s.pg f=0)(u:Bool):Calls prog 209 #[.pointer (some ⟨b,0,none⟩),.int .i64 f,.bool u] w λe w'=>e=.returned (.tuple #[])/\CRP b n w' {s with on:=upd s.on f u} F/\Fr F w w':=by
 obtain⟨A,hA,hk,hm,hF⟩:=h;obtain⟨i,x,_,hx,ef⟩:=ofF_of hm ha hp;obtain⟨k1,k2⟩:=set_ok hk hm ha hp u;exact(pa_set hA hk hx ef u hn).mono λe w' ⟨he,h',hf⟩=>⟨he,⟨A,h',k1,k2,hF⟩,hf.mono (λi q=>(hF i).2 q)⟩
theorem cr_remove(h:CRP b n w s F)(hn:n<=30000)(ha:f<n)(hp:¬s.pg f=0):Calls prog 208 #[.pointer (some ⟨b,0,none⟩),.int .i64 f] w λe w'=>e=.returned (.tuple #[])/\CRP b n w' (s.rem f) F/\Fr F w w':=by
 obtain⟨A,hA,hk,hm,hF⟩:=h;obtain⟨i,x,e,hx,ef⟩:=ofF_of hm ha hp;obtain⟨k1,k2,_,_⟩:=rem_ok hk hm ha hp;have er:s.rem f=(s.empty f).drop i:=by unfold PrS.rem;rw[e]
 refine(pa_remove hA hk hx ef hn).mono λe w' ⟨he,h',hf⟩=>⟨he,⟨A,by rw[er];exact h',k1,k2,hF⟩,hf.mono (λi q=>(hF i).2 q)⟩
theorem resS_ok(hk:PK n n s)(hm:PM n s)(hz:¬s.sizeN n=0):PK n n (resS (s.vic n))/\PM n (resS (s.vic n))/\resF (s.vic n)<n/\(¬s.pg (resF (s.vic n))=0)/\s.on (resF (s.vic n))=true/\(resS (s.vic n)).pg=upd s.pg (resF (s.vic n)) 0/\(resS (s.vic n)).on=upd s.on (resF (s.vic n)) false:=by
 have h:=vicL_ok (n:=n) (4*s.L.length+4) hk hm;have e:s.vic n=vicL n (4*s.L.length+4) s:=rfl;rw[e];generalize vicL n (4*s.L.length+4) s=V at*;obtain⟨t,o⟩:=V;obtain⟨k1,k2,k3⟩:=h
 cases o with
 |some f=>
  obtain⟨p1,p2,p3,p4,p5⟩:=k3;exact⟨k1,k2,p1,p2,p3,p4,p5⟩
 |none=>
  have k3:Kept s t:=k3;have hz2:¬t.sizeN n=0:=by rw[kept_size k3];exact hz
  obtain⟨_,_,_,_,_,p1,p2,p3⟩:=first_ok k1 k2 hz2;obtain⟨r1,r2,r3,r4⟩:=rem_ok k1 k2 p1 p2;exact⟨r1,r2,p1,by rw[<-k3.pg];exact p2,by rw[<-k3.on];exact p3,by rw[<-k3.pg];exact r3,by rw[<-k3.on];exact r4⟩
theorem vicP(s:PrS)(id:Nat):(polP n).victim s id=(if s.sizeN n=0 then none else some (resF (s.vic n)))/\(polP n).gone s id=resS (s.vic n):=by
 constructor
 .show(if s.sizeN n=0 then none else match s.vic n with|(_,some f)=>some f|(t,none)=>some t.first)=_
  split
  .rfl
  .unfold resF
   generalize s.vic n=V;obtain⟨t,o⟩:=V
   cases o<;>rfl
 .show(match s.vic n with|(t,some _)=>t|(t,none)=>t.rem t.first)=_
  unfold resS;generalize s.vic n=V;obtain⟨t,o⟩:=V
  cases o<;>rfl
theorem cr_victim(h:CRP b n w s F)(hn:n<=30000)(hz:¬s.sizeN n=0)(p:Int):Calls prog 211 #[.pointer (some ⟨b,0,none⟩),.int .u32 p] w λe w'=>e=.returned (.tuple #[.int .i64 (resF (s.vic n):Nat),.bool true])/\CRP b n w' (resS (s.vic n)) F/\Fr F w w':=by
 obtain⟨A,hA,hk,hm,hF⟩:=h;obtain⟨k1,k2,_⟩:=resS_ok hk hm hz;exact(pa_victim_yes hA hk hm hz hn p).mono λe w' ⟨he,h',hf⟩=>⟨he,⟨A,h',k1,k2,hF⟩,hf.mono (λi q=>(hF i).2 q)⟩
end
theorem cod8(b n:Nat)(hn:n<=30000):CodG (polC n) (CRP b n) b (pre8 n) 207 205 209 211 208 where
 fr:=λh f hd=>h.fr f hd
 lt:=λh=>h.lt
 miss:=by
  rintro w t F c h hp hk;exact(pr_miss _ _).mono λe w' ⟨he,hw⟩=>⟨he,F,hw▸h,hw▸Fr.refl _ _,λi hi=>.inl hi⟩
 access:=by
  rintro w t F c h hp hk;obtain⟨a1,a2,a3,a4⟩:=hp.1 hk;exact(cr_access h hn a1 a2 a3 a4).mono λe w' ⟨he,h',hf⟩=>⟨he,F,h',hf,λi hi=>.inl hi⟩
 set:=by
  rintro w t F c h hp hk;obtain⟨a1,a2⟩:=hp.2.1 hk;exact(cr_set h hn a1 a2 c.on).mono λe w' ⟨he,h',hf⟩=>⟨he,F,h',hf,λi hi=>.inl hi⟩
 victimNo:=by
  rintro w t F c h hp hk hv;have hv:(polP n).victim t c.page=none:=hv;rw[(vicP t c.page).1]at hv
  have hz:t.sizeN n=0:=by
   by_cases q:t.sizeN n=0
   .exact q
   .rw[if_neg q]at hv;cases hv
  obtain⟨A,hA,hk',hm,hF⟩:=h;exact(pa_victim_no hA hk' hm hz c.page).mono λe w' ⟨he,hw⟩=>⟨he,F,hw▸⟨A,hA,hk',hm,hF⟩,hw▸Fr.refl _ _,λi hi=>.inl hi⟩
 victimYes:=by
  rintro w t F c a h hp hk hv;have hv:(polP n).victim t c.page=some a:=hv;have hg:(polC n).gone t c.page=resS (t.vic n):=(vicP t c.page).2;rw[(vicP t c.page).1]at hv;by_cases q:t.sizeN n=0
  .rw[if_pos q]at hv;cases hv
  .rw[if_neg q]at hv
   simp only[Option.some.injEq]at hv;rw[hg,<-hv];exact(cr_victim h hn q c.page).mono λe w' ⟨he,h',hf⟩=>⟨he,F,h',hf,λi hi=>.inl hi⟩
 remove:=by
  rintro w t F c h hp hk;obtain⟨a1,a2⟩:=hp.2.2 hk;exact(cr_remove h hn a1 a2).mono λe w' ⟨he,h',hf⟩=>⟨he,F,h',hf,λi hi=>.inl hi⟩
end
section
open Go.RowKit
def ok8(n:Nat)(m:Nat)(s:PrS)(pg:Nat->Nat)(ev:Nat->Bool):Prop:=PK n n s/\PM n s/\(∀f,f<n->s.pg f=pg f)/\∀f,f<n->¬pg f=0->s.on f=ev f
theorem okS8(n:Nat):OkSys (polC n) (pre8 n) n (ok8 n) where
 more:=λh _=>h
 same:=λ⟨h1,h2,h3,h4⟩ e1 e2=>⟨h1,h2,λf hf=>(h3 f hf).trans (e1 f hf),λf hf q=>(h4 f hf (by rw[e1 f hf];exact q)).trans (e2 f hf (by rw[e1 f hf];exact q))⟩
 pMiss:=λ_ _ _ _ _=>⟨λq=>(by cases q),λq=>(by cases q),λq=>(by cases q)⟩
 pAcc:=λ{m s pg ev id k} ⟨h1,h2,h3,h4⟩ _ a1 a2 hk hx=>⟨λ_=>⟨hk,a1,a2,by
  show s.pg k=id\/s.pg k=0/\∀f,f<n->¬s.pg f=id
  rw[h3 k hk];exact hx.imp _root_.id (λq=>⟨q.1,λf hf=>by rw[h3 f hf];exact q.2 f hf⟩)⟩,λq=>(by cases q),λq=>(by cases q)⟩
 pSet:=λ{m s pg ev k} b ⟨h1,h2,h3,h4⟩ _ hk hx=>⟨λq=>(by cases q),λ_=>⟨hk,by show¬s.pg k=0;rw[h3 k hk];exact hx⟩,λq=>(by cases q)⟩
 pVic:=λ_ _ _ _ _=>⟨λq=>(by cases q),λq=>(by cases q),λq=>(by cases q)⟩
 pRem:=λ{m s pg ev k} ⟨h1,h2,h3,h4⟩ _ hk hx=>⟨λq=>(by cases q),λq=>(by cases q),λ_=>⟨hk,by show¬s.pg k=0;rw[h3 k hk];exact hx⟩⟩
 okMiss:=λh _ _ _=>h
 okNew:=λ{m s pg ev id k} ⟨h1,h2,h3,h4⟩ _ a1 a2 hk h0 hn=>by
  obtain⟨k1,k2,k3,k4⟩:=access_new h1 h2 hk (by rw[h3 k hk];exact h0) a1 a2 (λf hf=>by rw[h3 f hf];exact hn f hf);have hon:=(h2.p0 k hk (no_K h1 h2 (by rw[h3 k hk];exact h0))).2;refine⟨k1,k2,λf hf=>?_,λf hf q=>?_⟩
  .show(s.access n k id).pg f=upd pg k id f
   rw[k3];by_cases e:f=k
   .subst e;rw[upd_same,upd_same]
   .rw[upd_other _ _ e,upd_other _ _ e];exact h3 f hf
  .show(s.access n k id).on f=upd ev k false f
   rw[k4];by_cases e:f=k
   .subst e;rw[upd_same];exact hon
   .rw[upd_other _ _ e]at q;rw[upd_other _ _ e];exact h4 f hf q
 okOld:=λ{m s pg ev id k} ⟨h1,h2,h3,h4⟩ _ a1 hk h0=>by
  obtain⟨k1,k2,k3,k4,_⟩:=access_old h1 h2 hk (by rw[h3 k hk];exact h0) a1;refine⟨k1,k2,λf hf=>?_,λf hf q=>?_⟩
  .show(s.access n k id).pg f=pg f
   rw[k3];by_cases e:f=k
   .subst e;rw[upd_same];exact h0.symm
   .rw[upd_other _ _ e];exact h3 f hf
  .show(s.access n k id).on f=ev f
   rw[k4];exact h4 f hf q
 okSet:=λ{m s pg ev k} b ⟨h1,h2,h3,h4⟩ _ hk hx=>by
  obtain⟨k1,k2⟩:=set_ok h1 h2 hk (by rw[h3 k hk];exact hx) b;refine⟨k1,k2,h3,λf hf q=>?_⟩
  show upd s.on k b f=upd ev k b f
  by_cases e:f=k
  .subst e;rw[upd_same,upd_same]
  .rw[upd_other _ _ e,upd_other _ _ e];exact h4 f hf q
 okRem:=λ{m s pg ev k} ⟨h1,h2,h3,h4⟩ _ hk hx=>by
  obtain⟨k1,k2,k3,k4⟩:=rem_ok h1 h2 hk (by rw[h3 k hk];exact hx);refine⟨k1,k2,λf hf=>?_,λf hf q=>?_⟩
  .show(s.rem k).pg f=upd pg k 0 f
   rw[k3];by_cases e:f=k
   .subst e;rw[upd_same,upd_same]
   .rw[upd_other _ _ e,upd_other _ _ e];exact h3 f hf
  .show(s.rem k).on f=upd ev k false f
   rw[k4];by_cases e:f=k
   .subst e;rw[upd_same,upd_same]
   .rw[upd_other _ _ e]at q;rw[upd_other _ _ e,upd_other _ _ e];exact h4 f hf q
 goer:=λ{m s pg ev id x} ⟨h1,h2,h3,h4⟩ hv=>by
  have hv:(polP n).victim s id=some x:=hv;rw[(vicP s id).1]at hv;by_cases q:s.sizeN n=0
  .rw[if_pos q]at hv;cases hv
  .rw[if_neg q]at hv
   simp only[Option.some.injEq]at hv;obtain⟨_,_,k3,k4,k5,_,_⟩:=resS_ok h1 h2 q;rw[hv]at k3 k4 k5;rw[h3 x k3]at k4;exact⟨k3,k4,by rw[<-h4 x k3 k4];exact k5⟩
 some:=λ{m s pg ev id} ⟨h1,h2,h3,h4⟩ ⟨x,g1,g2,g3⟩ hv=>by
  have hv:(polP n).victim s id=none:=hv;rw[(vicP s id).1]at hv;by_cases q:s.sizeN n=0
  .have:=size_zero q g1 (by rw[h3 x g1];exact g2)
   rw[h4 x g1 g2,g3]at this;cases this
  .rw[if_neg q]at hv;cases hv
 okGone:=λ{m s pg ev id x} ⟨h1,h2,h3,h4⟩ _ a1 hn hv=>by
  have hv:(polP n).victim s id=some x:=hv;rw[(vicP s id).1]at hv;by_cases q:s.sizeN n=0
  .rw[if_pos q]at hv;cases hv
  .rw[if_neg q]at hv
   simp only[Option.some.injEq]at hv;obtain⟨k1,k2,k3,k4,k5,k6,k7⟩:=resS_ok h1 h2 q;rw[hv]at k6 k7;have hg:(polC n).gone s id=resS (s.vic n):=(vicP s id).2;rw[hg];refine⟨k1,k2,λf hf=>?_,λf hf q=>?_⟩
   .rw[k6]
    by_cases e:f=x
    .subst e;rw[upd_same,upd_same]
    .rw[upd_other _ _ e,upd_other _ _ e];exact h3 f hf
   .rw[k7]
    by_cases e:f=x
    .subst e;rw[upd_same,upd_same]
    .rw[upd_other _ _ e]at q;rw[upd_other _ _ e,upd_other _ _ e];exact h4 f hf q
theorem rep8(pb b n:Nat)(hn:n<=30000):RepSys (advOf (polC n)) (CRP b n) pb (repV8 b) n (ok8 n):=repOf (cod8 b n hn) (clo8 b) (okS8 n)
end
end Go.Proofs.YtpkbkhffglikhaaGreatDoor
