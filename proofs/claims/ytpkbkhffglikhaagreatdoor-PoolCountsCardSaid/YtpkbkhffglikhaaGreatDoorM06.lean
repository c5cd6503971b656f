/- Part 6. -/
import Derived.Test.YtpkbkhffglikhaaGreatDoorM05
import Derived.Deep.RegionHeld3
namespace Go.Proofs.YtpkbkhffglikhaaGreatDoor
set_option linter.all false
set_option maxHeartbeats 16000000
set_option maxRecDepth 100000
section
open Go.Maps Go.Proofs.Tryz Go.RowKit
theorem pigeon:∀(N n:Nat) (f:Nat->Nat),InjF (λx:Nat=>x) f n->(∀k,k<n->f k<N)->n<=N:=by
 intro N
 induction N with
 |zero=>
  intro n f hi hb;rcases Nat.eq_zero_or_pos n with e|e
  .omega
  .have:=hb 0 e;omega
 |succ N ih=>
  intro n f hi hb;by_cases hk:∃k,k<n/\f k=N
  .obtain⟨k,k1,k2⟩:=hk
   obtain⟨m,rfl⟩:∃m,n=m+1:=⟨n-1,by omega⟩;have hs:=swp_inj (f:=λx:Nat=>x) (a:=f) (i:=k) (j:=m) k1 (by omega) hi
   have:=ih m (swp f k m) (λa b ha hb' e=>hs a b (by omega) (by omega) e) (λj hj=>by
    show(if j=k then f m else if j=m then f k else f j)<N
    split
    .rename_i e
     have h1:=hb m (by omega);have h2:¬f m=N:=λq=>by have:=hi m k (by omega) k1 (by show f m=f k;omega);omega
     omega
    .rename_i e
     rw[if_neg (by omega)];have h1:=hb j (by omega);have h2:¬f j=N:=λq=>by have:=hi j k (by omega) k1 (by show f j=f k;omega);exact e this
     omega)
   omega
  .have:=ih n f hi (λk q=>by have h1:=hb k q;have h2:¬f k=N:=λe=>hk ⟨k,q,e⟩;omega)
   omega
theorem push_up{α:Type}(lt:α->α->Bool){a:Nat->α}{n:Nat}(t:α)(h:IsHeap lt a n):UpHeap lt (upd a n t) (n+1) n:=by
 refine⟨λk h0 h1 h2=>?_,λk h0 h1 h2 h3=>?_⟩
 .have hp:par k<n:=by unfold par;omega
  rw[upd_other _ _ h2,upd_other _ _ (by omega)];exact h k h0 (by omega)
 .exfalso;unfold par at h2;omega
theorem dH_fv(s:DS)(pv fv fv':Value)(mb:Nat):upd (dH s pv fv mb) 2 fv'=dH s pv fv' mb:=by
 funext j
 match j with
 |0=>rfl
 |1=>rfl
 |2=>rfl
 |3=>rfl
 |4=>rfl
 |5=>rfl
 |6=>rfl
 |7=>rfl
 |j+8=>simp[upd,dH]
def DS.gone(s:DS)(id:Nat):DS:={s with pg:=upd s.pg (id-1) (false,0)}
section
variable{w w':World}{db c mb nf:Nat}{s:DS}{pv fv:Value}{fh:Nat->Nat}{F:Nat->Prop}
theorem DC.small(h:DC w db s c pv fv mb fh nf):nf<=65535:=by
 have:=h.nn;have:=h.r1;have:=h.r2;omega
theorem DC.page2{g cap:Nat}(h:DC w db s c pv fv mb fh nf)(hpv:pv=.slice (some ⟨g,0,none⟩) s.np cap){k:Nat}(hk:k<s.np)(b:Bool)(v:Nat){w1:World}(hw:w1=(w.setCell ⟨g,k*2,none⟩ (.bool b)).setCell ⟨g,k*2+1,none⟩ (.int .u64 v)):
  SlF w1 79 2 pv s.np (pgF (upd s.pg k (b,v)))/\Fr (λi=>pv.ownBlock=some i) w w1:=by
 subst hw;subst hpv;have hs:=(h.po.set (i:=k*2) (by omega) (.bool b)).set (i:=k*2+1) (by omega) (.int .u64 v);rw[pgF_set]at hs;exact⟨hs,(((Fr.refl (λi=>i=g) w).setCell (p:=⟨g,k*2,none⟩) (.inl rfl) _).setCell (p:=⟨g,k*2+1,none⟩) (.inl rfl) _).mono (λi q=>by rw[q];rfl)⟩
theorem DC.freed(h:DC w db s c pv fv mb fh nf){id:Nat}(hh:s.has id=true){w1 w2:World}(hs:SlF w1 79 2 pv s.np (pgF (upd s.pg (id-1) (false,0))))(f1:Fr (λi=>pv.ownBlock=some i) w w1){F F':Nat->Prop}(hF:∀i,F i↔i=db\/fv.ownBlock=some i)
  (hr:HRd db (dH s pv fv mb) w2 (upF ltN (upd fh nf id) nf) (nf+1) F')(f2:Fr F w1 w2)(hF':∀i,F' i->F i\/w1.heap.size<=i):
  (∃fv',DC w2 db (s.gone id) c pv fv' mb (upF ltN (upd fh nf id) nf) (nf+1)/\∀b,fv'.ownBlock=some b->fv.ownBlock=some b\/w.heap.size<=b)/\Fr (FD db pv fv mb) w w2:=by
 obtain⟨fv',hb,hsl,hd,hn,hFe⟩:=hr;rw[dH_fv]at hb;have hid:1<=id/\id<=s.np/\(s.pg (id-1)).1=true:=by unfold DS.has at hh;simp at hh;exact⟨hh.1.1,hh.1.2,hh.2⟩
 have ho:∀b,fv'.ownBlock=some b->fv.ownBlock=some b\/w.heap.size<=b:=by
  intro b q;rcases hF' b ((hFe b).2 (.inr q))with e|e
  .rcases(hF b).1 e with e|e
   .exact absurd e (hd b q)
   .exact .inl e
  .exact .inr (Nat.le_trans f1.size e)
 have hl:=h.hd.lt;have hm:=h.mp.lt
 have hni:∀k,k<nf->¬fh k=id:=by
  intro k hk e;have:=(h.fm id).1 ⟨k,hk,e⟩;rw[hid.2.2]at this;exact absurd this.2.2 (by simp)
 have hmem:∀x,(∃k,k<nf+1/\upF ltN (upd fh nf id) nf k=x)↔x=id\/∃k,k<nf/\fh k=x:=by
  intro x;rw[up_mem ltN x (n:=nf+1) (upd fh nf id) nf (by omega)];constructor
  .rintro⟨k,k1,k2⟩
   by_cases e:k=nf
   .subst e;rw[upd_same]at k2;exact .inl k2.symm
   .rw[upd_other _ _ e]at k2;exact .inr ⟨k,by omega,k2⟩
  .rintro(e|⟨k,k1,k2⟩)
   .exact⟨nf,by omega,by rw[upd_same,e]⟩
   .exact⟨k,by omega,by rw[upd_other _ _ (by omega)];exact k2⟩
 have hinj:InjF (λx:Nat=>x) (upF ltN (upd fh nf id) nf) (nf+1):=by
  refine up_inj ltN (upd fh nf id) nf (by omega) ?_;intro a b ha hb e
  dsimp only at e
  by_cases e1:a=nf
  .by_cases e2:b=nf
   .omega
   .rw[e1,upd_same,upd_other _ _ e2]at e
    exact absurd e.symm (hni b (by omega))
  .by_cases e2:b=nf
   .rw[e2,upd_same,upd_other _ _ e1]at e
    exact absurd e (hni a (by omega))
   .rw[upd_other _ _ e1,upd_other _ _ e2]at e
    exact h.inj a b (by omega) (by omega) e
 have hfm:∀x,(∃k,k<nf+1/\upF ltN (upd fh nf id) nf k=x)↔1<=x/\x<=s.np/\(upd s.pg (id-1) (false,0) (x-1)).1=false:=by
  intro x;rw[hmem x,h.fm x];by_cases e:x=id
  .subst e
   rw[upd_same];exact⟨λ_=>⟨hid.1,hid.2.1,rfl⟩,λ_=>.inl rfl⟩
  .constructor
   .rintro(q|q)
    .exact absurd q e
    .rw[upd_other _ _ (by omega)];exact q
   .intro q
    rw[upd_other _ _ (by omega)]at q;exact .inr q
 have hnn:nf+1<=s.np:=by
  refine pigeon s.np (nf+1) (λk=>upF ltN (upd fh nf id) nf k-1) (λa b ha hb e=>?_) (λk hk=>?_)
  .have e1:=(hfm _).1 ⟨a,ha,rfl⟩
   have e2:=(hfm _).1 ⟨b,hb,rfl⟩;exact hinj a b ha hb (by show upF ltN (upd fh nf id) nf a=upF ltN (upd fh nf id) nf b;have e3:upF ltN (upd fh nf id) nf a-1=upF ltN (upd fh nf id) nf b-1:=e;omega)
  .have e1:=(hfm _).1 ⟨k,hk,rfl⟩
   show upF ltN (upd fh nf id) nf k-1<s.np;omega
 have f12:Fr (FD db pv fv mb) w w2:=(f1.mono (λi q=>.inr (.inr (.inl q)))).trans f2 (λi q=>.inl (by rcases(hF i).1 q with q|q;exact .inl q;exact .inr (.inr (.inr q))))
 have n1':∀b,pv.ownBlock=some b->¬b=db/\¬b=mb/\¬fv'.ownBlock=some b:=by
  intro b q;refine⟨(h.n1 b q).1,(h.n1 b q).2.1,λq2=>?_⟩;rcases ho b q2 with e|e
  .exact(h.n1 b q).2.2 e
  .have:=h.po.lt b q;omega
 have n2':∀b,fv'.ownBlock=some b->¬b=db/\¬b=mb:=by
  intro b q;rcases ho b q with e|e
  .exact h.n2 b e
  .exact⟨by omega,by omega⟩
 exact⟨⟨fv',⟨hb,hs.fr f2 (λb q e=>by rcases(hF b).1 e with e|e;exact(h.n1 b q).1 e;exact(h.n1 b q).2.2 e),hsl,(h.mp.fr f1 (λe=>(h.n1 mb e).2.1 rfl)).fr f2 (λe=>by rcases(hF mb).1 e with e|e;exact h.n3 e;exact(h.n2 mb e).2 rfl),n1',n2',h.n3,h.r1,h.r2,(push_up ltN id h.hp).up ltN_ord _ nf (by omega),hinj,hnn,hfm,h.ct,h.lr,h.fb⟩,ho⟩,f12⟩
theorem DC.heap(h:DC w db s c pv fv mb fh nf){w1:World}(f1:Fr (λi=>pv.ownBlock=some i) w w1):HRd db (dH s pv fv mb) w1 fh nf (λi=>i=db\/fv.ownBlock=some i):=by
 refine⟨fv,?_,h.fo.fr f1 (λb q e=>(h.n1 b e).2.2 q),λb q=>(h.n2 b q).1,by have:=h.small;omega,λi=>Iff.rfl⟩;rw[dH_fv];exact h.hd.fr f1 (λe=>(h.n1 db e).1 rfl)
theorem dk_free_no(h:DC w db s c pv fv mb fh nf){id:Nat}(hu:isU32D id)(hh:s.has id=false):Calls prog 45 #[.pointer (some ⟨db,0,none⟩),.int .u32 id] w λe w'=>e=.returned (.int .i64 3)/\w=w':=by
 have HA:=dk_has h hu;rw[hh]at HA;have HA2:=Hd HA;clear h HA hh hu;go_enter func45,ntmps45
 go_wp2_with fail
 refine HA2.out.mono ?_;rintro e w1⟨rfl,rfl⟩;go_wp2;go_returns;exact⟨rfl,rfl⟩
theorem dk_free_yes(h:DC w db s c pv fv mb fh nf){id:Nat}(hu:isU32D id)(hh:s.has id=true):Calls prog 45 #[.pointer (some ⟨db,0,none⟩),.int .u32 id] w λe w'=>e=.returned (.int .i64 0)/\
  (∃fv',DC w' db (s.gone id) c pv fv' mb (upF ltN (upd fh nf id) nf) (nf+1)/\∀b,fv'.ownBlock=some b->fv.ownBlock=some b\/w.heap.size<=b)/\Fr (FD db pv fv mb) w w':=by
 have HA:=dk_has h hu;rw[hh]at HA;have HA2:=Hd HA;have hid:1<=id/\id<=s.np/\(s.pg (id-1)).1=true:=by unfold DS.has at hh;simp at hh;exact⟨hh.1.1,hh.1.2,hh.2⟩
 obtain⟨g,cap,p1,p2,p3,p4,p5,p6⟩:=h.po.at (by omega);have c1:w.cell? ⟨db,1,none⟩=some pv:=h.ce 1 (by omega);have lb:=h.hd.lt;have hgd:¬g=db:=(h.n1 g (by rw[p1];rfl)).1;have hgd2:¬db=g:=λe=>hgd e.symm
 have HS:=h.small
 have K:Hid (∀w1,w1=(w.setCell ⟨g,(id-1)*2,none⟩ (.bool false)).setCell ⟨g,(id-1)*2+1,none⟩ (.int .u64 0)->Calls prog 73 #[.iface 150 (.pointer (some ⟨db,2,none⟩)),.iface 32 (.int .u32 id)] w1 λe w'=>e=.returned (.tuple #[])/\(∃fv',DC w' db (s.gone id) c pv fv' mb (upF ltN (upd fh nf id) nf) (nf+1)/\∀b,fv'.ownBlock=some b->fv.ownBlock=some b\/w.heap.size<=b)/\Fr (FD db pv fv mb) w w'):=by
  intro w1 hw;obtain⟨q1,q2⟩:=h.page2 p1 (k:=id-1) (by omega) false 0 hw;have hp:=heap_push (idh_sys db (dH s pv fv mb)) (h.heap q2) (t:=id) (by show nf<900000;omega);refine hp.mono ?_;rintro e w2⟨rfl,F',h1,h2,h3⟩;exact⟨rfl,h.freed hh q1 q2 (λi=>Iff.rfl) h1 h2 h3⟩
 have cf0:=p5 ((id-1)*2);have cf1:=p5 ((id-1)*2+1);have cg0:=p6 ((id-1)*2) (by omega);have cg1:=p6 ((id-1)*2+1) (by omega);rw[p1]at c1;unfold maxLen at p3;obtain⟨k,rfl⟩:∃k,id=k+1:=⟨id-1,by omega⟩;rw[show k+1-1=k from by omega]at*;rw[pgF_0]at cg0;rw[pgF_1]at cg1;have hks:((k+1:Nat):Int)-1=(k:Int):=by omega
 have hkn:k<s.np:=by omega
 have hnr:=h.r2;have hrr:=h.r1;clear h HA hh hu hid p5 p6 p1;go_enter func45,ntmps45
 go_wp2_with fail
 refine HA2.out.mono ?_;rintro e w1⟨rfl,rfl⟩
 go_wp2_with fail
 refine(K.out _ (by rfl)).mono ?_;rintro e w2⟨rfl,h2⟩;have H2:=Hd h2;clear h2;go_wp2;go_returns;exact⟨rfl,H2.out⟩
end
section
variable{α:Type}{lt:α->α->Bool}
theorem pop_heap(O:Ord lt){a:Nat->α}{n:Nat}(h:IsHeap lt a (n+1)):IsHeap lt (popF lt a n) n:=by
 unfold popF
 split
 .rename_i e;subst e;intro k h0 h1;omega
 .rename_i e
  refine(GapHeap.down O n (swp a 0 n) 0 (by omega) (by omega) ⟨λk h0 h1 h2 h3=>?_,λk h0 h1 h2 h3=>(by omega)⟩).2.2 (.inl rfl);have hp:par k<n:=by unfold par;omega
  have e1:swp a 0 n k=a k:=by unfold swp;rw[if_neg h2,if_neg (by omega)]
  have e2:swp a 0 n (par k)=a (par k):=by unfold swp;rw[if_neg h3,if_neg (by omega)]
  rw[e1,e2];exact h k h0 (by omega)
theorem pop_swp{β:Type}{f:α->β}{a:Nat->α}{n:Nat}(hi:InjF f a (n+1)):InjF f (popF lt a n) n/\∀x,(∃k,k<n/\popF lt a n k=x)↔∃k,k<n/\swp a 0 n k=x:=by
 unfold popF
 split
 .rename_i e
  subst e;exact⟨λk m h1=>(by omega),λx=>⟨λ⟨k,q,_⟩=>(by omega),λ⟨k,q,_⟩=>(by omega)⟩⟩
 .rename_i e
  have hs:=swp_inj (f:=f) (a:=a) (i:=0) (j:=n) (n:=n+1) (by omega) (by omega) hi;exact⟨down_inj (f:=f) lt n (swp a 0 n) 0 (by omega) (by omega) (λk m h1 h2=>hs k m (by omega) (by omega)),λx=>down_mem lt x n (swp a 0 n) 0 (by omega) (by omega)⟩
end
theorem pop_mem{a:Nat->Nat}{n:Nat}(hi:InjF (λx:Nat=>x) a (n+1))(x:Nat):(∃k,k<n/\popF ltN a n k=x)↔(∃k,k<n+1/\a k=x)/\¬x=a 0:=by
 rw[(pop_swp (lt:=ltN) hi).2 x];constructor
 .rintro⟨k,k1,k2⟩
  by_cases e:k=0
  .subst e
   have e1:swp a 0 n 0=a n:=by unfold swp;rw[if_pos rfl]
   rw[e1]at k2;exact⟨⟨n,by omega,k2⟩,λq=>by have:=hi n 0 (by omega) (by omega) (by show a n=a 0;omega);omega⟩
  .have e1:swp a 0 n k=a k:=by unfold swp;rw[if_neg e,if_neg (by omega)]
   rw[e1]at k2;exact⟨⟨k,by omega,k2⟩,λq=>by have:=hi k 0 (by omega) (by omega) (by show a k=a 0;omega);omega⟩
 .rintro⟨⟨k,k1,k2⟩,k3⟩
  have hk0:¬k=0:=λe=>k3 (by rw[<-k2,e])
  by_cases e:k=n
  .subst e
   exact⟨0,by omega,by unfold swp;rw[if_pos rfl];exact k2⟩
  .exact⟨k,by omega,by unfold swp;rw[if_neg hk0,if_neg e];exact k2⟩
def DS.reuse(s:DS)(id:Nat):DS:={s with pg:=upd s.pg (id-1) (true,0)}
section
variable{w w':World}{db c mb nf:Nat}{s:DS}{pv fv:Value}{fh:Nat->Nat}{F:Nat->Prop}
theorem DC.least(h:DC w db s c pv fv mb fh (nf+1)):1<=fh 0/\fh 0<=s.np/\(s.pg (fh 0-1)).1=false/\∀x,1<=x->x<=s.np->(s.pg (x-1)).1=false->fh 0<=x:=by
 obtain⟨h1,h2,h3⟩:=(h.fm (fh 0)).1 ⟨0,by omega,rfl⟩;refine⟨h1,h2,h3,λx x1 x2 x3=>?_⟩;obtain⟨k,k1,k2⟩:=(h.fm x).2 ⟨x1,x2,x3⟩;have:=h.hp.root ltN_ord k k1;unfold ltN at this;simp at this;omega
theorem DC.reused(h:DC w db s c pv fv mb fh (nf+1)){w1:World}(hF:∀i,F i↔i=db\/fv.ownBlock=some i)(hr:HRd db (dH s pv fv mb) w1 (popF ltN fh nf) nf F)(f1:Fr F w w1):
  w1.cell? ⟨db,1,none⟩=some pv/\db<w1.heap.size/\SlF w1 79 2 pv s.np (pgF s.pg)/\
  Hid (∀w2,SlF w2 79 2 pv s.np (pgF (upd s.pg (fh 0-1) (true,0)))->Fr (λi=>pv.ownBlock=some i) w1 w2->(∃fv',DC w2 db (s.reuse (fh 0)) c pv fv' mb (popF ltN fh nf) nf/\∀b,fv'.ownBlock=some b->fv.ownBlock=some b)/\Fr (FD db pv fv mb) w w2):=by
 obtain⟨fv',hb,hsl,hd,hn,hFe⟩:=hr;rw[dH_fv]at hb;obtain⟨l1,l2,l3,l4⟩:=h.least
 have ho:∀b,fv'.ownBlock=some b->fv.ownBlock=some b:=by
  intro b q;rcases(hF b).1 ((hFe b).2 (.inr q))with e|e
  .exact absurd e (hd b q)
  .exact e
 have hs1:SlF w1 79 2 pv s.np (pgF s.pg):=h.po.fr f1 (λb q e=>by rcases(hF b).1 e with e|e;exact(h.n1 b q).1 e;exact(h.n1 b q).2.2 e);refine⟨hb.cell (i:=1) (by omega),hb.lt,hs1,?_⟩;intro w2 hs f2;have n1':∀b,pv.ownBlock=some b->¬b=db/\¬b=mb/\¬fv'.ownBlock=some b:=λb q=>⟨(h.n1 b q).1,(h.n1 b q).2.1,λq2=>(h.n1 b q).2.2 (ho b q2)⟩
 have hi:=(pop_swp (lt:=ltN) h.inj).1
 have hfm:∀x,(∃k,k<nf/\popF ltN fh nf k=x)↔1<=x/\x<=s.np/\(upd s.pg (fh 0-1) (true,0) (x-1)).1=false:=by
  intro x;rw[pop_mem h.inj x,h.fm x];by_cases e:x=fh 0
  .subst e
   rw[upd_same];exact⟨λq=>absurd rfl q.2,λq=>absurd q.2.2 (by simp)⟩
  .constructor
   .rintro⟨q,_⟩
    rw[upd_other _ _ (by omega)];exact q
   .intro q
    rw[upd_other _ _ (by omega)]at q;exact⟨q,e⟩
 refine⟨⟨fv',⟨hb.fr f2 (λe=>(h.n1 db e).1 rfl),hs,hsl.fr f2 (λb q e=>(n1' b e).2.2 q),(h.mp.fr f1 (λe=>by rcases(hF mb).1 e with e|e;exact h.n3 e;exact(h.n2 mb e).2 rfl)).fr f2 (λe=>(h.n1 mb e).2.1 rfl),n1',λb q=>h.n2 b (ho b q),h.n3,h.r1,h.r2,pop_heap ltN_ord h.hp,hi,by show nf<=s.np;have:=h.nn;omega,hfm,h.ct,h.lr,h.fb⟩,ho⟩,?_⟩;exact(f1.mono (λi q=>by rcases(hF i).1 q with q|q;exact .inl q;exact .inr (.inr (.inr q)))).trans f2 (λi q=>.inl (.inr (.inr (.inl q))))
theorem dk_alloc_pop(h:DC w db s c pv fv mb fh (nf+1)):Calls prog 43 #[.pointer (some ⟨db,0,none⟩)] w λe w'=>e=.returned (.tuple #[.int .u32 (fh 0:Nat),.int .i64 0])/\
  (∃fv',DC w' db (s.reuse (fh 0)) c pv fv' mb (popF ltN fh nf) nf/\∀b,fv'.ownBlock=some b->fv.ownBlock=some b)/\Fr (FD db pv fv mb) w w':=by
 have c2:w.cell? ⟨db,2,none⟩=some fv:=h.ce 2 (by omega);obtain⟨l1,l2,l3,l4⟩:=h.least;have hsm:=h.small;have hnr:=h.r2;have hrr:=h.r1;have lb:=h.hd.lt;have HP:Hid (Calls prog 66 #[.iface 150 (.pointer (some ⟨db,2,none⟩))] w λe w'=>e=.returned (encU (fh 0))/\HRd db (dH s pv fv mb) w' (popF ltN fh nf) nf (λi=>i=db\/fv.ownBlock=some i)/\Fr (λi=>i=db\/fv.ownBlock=some i) w w'):=heap_pop (idh_sys db (dH s pv fv mb)) (h.heap (Fr.refl _ w))
 have K:Hid (∀w1,HRd db (dH s pv fv mb) w1 (popF ltN fh nf) nf (λi=>i=db\/fv.ownBlock=some i)->Fr (λi=>i=db\/fv.ownBlock=some i) w w1->∃g cap,pv=.slice (some ⟨g,0,none⟩) s.np cap/\s.np<=cap/\cap<=9223372036854775807/\¬g=db/\w1.cell? ⟨db,1,none⟩=some pv/\db<w1.heap.size/\g<w1.heap.size/\(∀i,w1.frozen? ⟨g,i,none⟩=false)/\w1.cell? ⟨g,(fh 0-1)*2,none⟩=some (.bool (s.pg (fh 0-1)).1)/\w1.cell? ⟨g,(fh 0-1)*2+1,none⟩=some (.int .u64 (s.pg (fh 0-1)).2)/\
   Hid ((∃fv',DC ((w1.setCell ⟨g,(fh 0-1)*2,none⟩ (.bool true)).setCell ⟨g,(fh 0-1)*2+1,none⟩ (.int .u64 0)) db (s.reuse (fh 0)) c pv fv' mb (popF ltN fh nf) nf/\∀b,fv'.ownBlock=some b->fv.ownBlock=some b)/\Fr (FD db pv fv mb) w ((w1.setCell ⟨g,(fh 0-1)*2,none⟩ (.bool true)).setCell ⟨g,(fh 0-1)*2+1,none⟩ (.int .u64 0)))):=by
  intro w1 hr f1;obtain⟨r1,r2,r3,r4⟩:=h.reused (λi=>Iff.rfl) hr f1;obtain⟨g,cap,p1,p2,p3,p4,p5,p6⟩:=r3.at (by omega);refine⟨g,cap,p1,p2,by unfold maxLen at p3;omega,(h.n1 g (by rw[p1];rfl)).1,r1,r2,p4,p5,by rw[p6 _ (by omega),pgF_0],by rw[p6 _ (by omega),pgF_1],?_⟩;subst p1;have hs:=(r3.set (i:=(fh 0-1)*2) (by omega) (.bool true)).set (i:=(fh 0-1)*2+1) (by omega) (.int .u64 (0:Nat));rw[pgF_set]at hs;exact r4.out _ hs ((((Fr.refl (λi=>i=g) w1).setCell (p:=⟨g,(fh 0-1)*2,none⟩) (.inl rfl) _).setCell (p:=⟨g,(fh 0-1)*2+1,none⟩) (.inl rfl) _).mono (λi q=>by rw[q];rfl))
 obtain⟨fa,fc,rfl,_,_⟩:=h.fo.shape;clear h l3 l4;unfold encU at HP;have hta:∀t:Int,∀W:World,(Instr.typeAssert (.iface 32 (.int .u32 t)) 20 32 false).run prog W=.ok (.int .u32 t) W:=λt W=>by kernel_rfl
 obtain⟨k,hk⟩:∃k,fh 0=k+1:=⟨fh 0-1,by omega⟩;rw[hk]at K HP l1 l2⊢;rw[show k+1-1=k from by omega]at K;have hks:((k+1:Nat):Int)-1=(k:Int):=by omega
 have hkn:k<s.np:=by omega
 have hta2:=hta ((k:Int)+1);have hta3:=hta ((k+1:Nat):Int);clear hta hk;have hnf:0<((nf+1:Nat):Int):=by omega
 go_enter func43,ntmps43
 go_wp2_with fail
 refine HP.out.mono ?_;rintro e w1⟨rfl,hr,f1⟩;obtain⟨g,cap,hpv,e1,e2,e3,e4,e5,e6,e7,e8,e9,KK⟩:=K.out w1 hr f1;have HPV:=Hd hpv;rw[hpv]at e4;have f70:=e7 (k*2);have f71:=e7 (k*2+1);clear hr f1 hpv K e7;go_wp2;go_returns;exact⟨rfl,KK.out⟩
end
def idsL(pg:Nat->Bool×Nat)(k:Nat):List Nat:=((List.range k).filter λi=>(pg i).1).map (· +1)
theorem idsL_succ(pg:Nat->Bool×Nat)(k:Nat):idsL pg (k+1)=if(pg k).1=true then idsL pg k++[k+1]else idsL pg k:=by
 unfold idsL;rw[List.range_succ,List.filter_append,List.map_append];by_cases h:(pg k).1=true
 .simp[h]
 .simp[h]
theorem idsL_len(pg:Nat->Bool×Nat)(k:Nat):(idsL pg k).length<=k:=by
 unfold idsL;rw[List.length_map];exact Nat.le_trans (List.length_filter_le _ _) (by rw[List.length_range];exact Nat.le_refl _)
theorem OwK.made{w w0:World}(hf:w0.heap.size<=w.heap.size)(k:IntKind)(e:TypeId)(cs:Array Value)(g c:Nat)(hg:g=w.heap.size)(hs:cs.size=c)(hm:c<=maxLen):OwK k w0.heap.size e (w.alloc (.cells cs e)) (.slice (some ⟨g,0,none⟩) 0 c) []:=by
 subst hg;exact⟨rfl,.inr ⟨w.heap.size,c,cs,rfl,hf,heap_alloc_new _ _ _ rfl,Nat.zero_le _,hm,by rw[hs,Nat.mul_one],by simp⟩⟩
theorem OwK.fr{k:IntKind}{base:Nat}{e:TypeId}{w w':World}{v:Value}{l:List Nat}(h:OwK k base e w v l)(f:Fr NoF w w'):OwK k base e w' v l:=own_keep h f (λ_ _ q=>q)
section
variable{w w':World}{db c mb nf:Nat}{s:DS}{pv fv:Value}{fh:Nat->Nat}{F:Nat->Prop}
theorem dk_pages(h:DC w db s c pv fv mb fh nf):Calls prog 12 #[.pointer (some ⟨db,0,none⟩)] w λe w'=>∃v,e=.returned v/\OwK .u32 w.heap.size 32 w' v (idsL s.pg s.np)/\Fr NoF w w':=by
 have c1:w.cell? ⟨db,1,none⟩=some pv:=h.ce 1 (by omega);have c2:w.cell? ⟨db,2,none⟩=some fv:=h.ce 2 (by omega);have lb:=h.hd.lt;have hnn:=h.nn;have hnr:=h.r2;have hrr:=h.r1;obtain⟨fa,fc,rfl,_,_⟩:=h.fo.shape;obtain⟨va,vc,rfl,v1,v2⟩:=h.po.shape;unfold maxLen at v2;obtain⟨i0,hi0,hz0,hz1,hz2⟩:=info_parts' (P:=prog) (e:=32) (z:=.int .u32 0) (s:=1) (b:=4) (by kernel_rfl)
 have mk1:∀w:World,(Instr.makeSlice 40 (.int .i64 0) (.int .i64 ((s.np:Int)-(nf:Int)))).run prog w=
   .ok (.slice (some ⟨w.heap.size,0,none⟩) 0 (s.np-nf)) (w.alloc (.cells (madeCells #[.int .u32 0] (s.np-nf)) 32)):=by
  intro w;have:=run_make (P:=prog) w 40 32 i0 _ underlying40 hi0 hz0 .i64 .i64 (0:Int) ((s.np:Int)-(nf:Int)) (by omega) (by omega) (by rw[hz2];omega) (by omega);rw[show((s.np:Int)-(nf:Int)).toNat=s.np-nf from by omega,hz1,Nat.mul_one]at this;exact this
 have hwr:IntKind.i64.wrap ((s.np:Int)-(nf:Int))=(s.np:Int)-(nf:Int):=IntWalk.i64_in _ (by omega);have HP:=Hd h.po
 have HMD:Hid (∀d,OwK .u32 w.heap.size 32 ((w.alloc (.cells (madeCells #[.int .u32 0] (s.np-nf)) 32)).drewN d) (.slice (some ⟨w.heap.size,0,none⟩) 0 (s.np-nf)) (idsL s.pg 0)):=by
  intro d;exact(OwK.made (Nat.le_refl _) .u32 32 _ _ _ rfl (by simp[size_madeCells]) (by unfold maxLen;omega)).fr ((Fr.refl NoF _).drewN d)
 clear h hi0 hz0 hz1 hz2;go_enter func12,ntmps12;go_wp2
 go_region
 go_wp2
 go_loopw [3,25] (λo i wr=>∃k:Nat,k<=s.np/\i=.int .i64 k/\OwK .u32 w.heap.size 32 wr o (idsL s.pg k)/\Fr NoF w wr) (λ_ i _=>s.np-(intOf i).toNat)
 case atStart=>
  refine⟨0,Nat.zero_le _,rfl,?_,((Fr.refl NoF w).alloc _).drew⟩;exact(OwK.made (Nat.le_refl _) .u32 32 _ _ _ rfl (by simp[size_madeCells]) (by unfold maxLen;omega)).fr ((Fr.refl NoF _).drew)
 case round=>
  obtain⟨k,hk,rfl,ho,hf⟩:=hrel;have HO:=Hd ho;have HF:=Hd hf;have hsz:=hf.size;by_cases hlt:k<s.np
  .obtain⟨g,cap,ev,q1,q2,q3,q4,q5⟩:=(HP.out.fr0 hf).at (by omega)
   simp only[Value.slice.injEq]at ev;obtain⟨rfl,_,rfl⟩:=ev;have cy0:=q5 (k*2) (by omega);have cy1:=q5 (k*2+1) (by omega);rw[pgF_0]at cy0;rw[pgF_1]at cy1;have hS:=idsL_succ s.pg k;have hL:=idsL_len s.pg k;have hcw:IntKind.u32.wrap ((k:Int)+1)=(k:Int)+1:=IntWalk.u32_in _ (by omega);clear q5
   cases hb:(s.pg k).1 with
   |false=>
    rw[hb]at cy0 hS;have HS:=Hd hS;clear hS hb ho hf hL;generalize(s.pg k).2=val at*;go_wp2
    go_roundw
    case rel=>exact⟨k+1,by omega,by go_num,by rw[HS.out,if_neg (by simp)];exact HO.out.fr (by repeat(first|exact Fr.refl NoF _|apply Fr.alloc|(refine Fr.setCell ?_ (.inr (by simp)) _))),HF.out.trans (G:=NoF) (by repeat(first|exact Fr.refl NoF _|apply Fr.alloc|(refine Fr.setCell ?_ (.inr (by simp)) _))) (λ_ q=>q.elim)⟩
    case measure=>simp[intOf];omega
   |true=>
    rw[hb]at cy0 hS;rw[if_pos rfl]at hS;have HS:=Hd hS;clear hS hb ho hf;generalize(s.pg k).2=val at*;have f2:Fr NoF wr ((wr.alloc (.cells #[.bool true,.int .u64 (val:Nat)] 79)).alloc (.cells #[.int .u32 ((k:Int)+1)] 32)):=((Fr.refl NoF wr).alloc _).alloc _;have FF2:=Hd f2;clear f2
    go_wp2_with(at_builtin;go_must(refine appLB (base:=w.heap.size) EIu rfl _ _ rfl (by rfl) (by rfl) (by simp;omega) (own_keep HO.out FF2.out (λ_ _ q=>q)) (SlC.ofOwn (own_new (w0:=wr) (by simp) #[.int .u32 ((k:Int)+1)] 32 1 1 _ (by simp) rfl (by unfold maxLen;omega)) (by simp[Value.oneCell'])) (by unfold maxLen;omega) (by omega) ?_);intro v' w2 hown' hf' _;have HF':=Hd hf';have HO':=Hd hown';clear cy0 cy1 hf' hown')
    go_roundw
    case rel=>
     refine⟨k+1,by omega,by go_num,?_,?_⟩
     .rw[HS.out];exact OwK.snoc HO'.out
     .refine(HF.out.trans FF2.out (λ_ q=>q.elim)).trans HF'.out (λi hi=>.inr ?_)
      exact HO.out.base i hi
    case measure=>simp[intOf];omega
  .obtain rfl:k=s.np:=by omega
   clear ho hf;go_wp2;go_returns;exact⟨_,rfl,HO.out,HF.out⟩
end
end
section
open Go.Maps Go.RowKit
theorem own_base{w:World}{base e size n:Nat}{v:Value}{xs:List Value}(h:w.ownsRow base e size v n xs):∀b,v.ownBlock=some b->base<=b:=ownBlock_own h
end
section
open Go.RowKit
def atP(l:List (Nat×Nat))(id:Nat):Option Nat:=l.findIdx? (λp=>p.1==id)
section
variable{w w':World}{v:Value}{l:List (Nat×Nat)}
theorem atP_none{l:List (Nat×Nat)}{id:Nat}(h:∀k (hk:k<l.length),¬l[k].1=id):atP l id=none:=by
 unfold atP;rw[List.findIdx?_eq_none_iff];intro p hp;obtain⟨k,hk,rfl⟩:=List.mem_iff_getElem.1 hp;simpa using h k hk
theorem atP_some{l:List (Nat×Nat)}{id k:Nat}(hk:k<l.length)(h:l[k].1=id)(hn:∀j (hj:j<k),¬(l[j]'(by omega)).1=id):atP l id=some k:=by
 unfold atP;rw[List.findIdx?_eq_some_iff_getElem];exact⟨hk,by simpa using h,λj hj=>by simpa using hn j hj⟩
end
theorem atP_is{l:List (Nat×Nat)}{id k:Nat}(h:atP l id=some k):∃hk:k<l.length,l[k].1=id:=by
 unfold atP at h;rw[List.findIdx?_eq_some_iff_getElem]at h;obtain⟨hk,h1,_⟩:=h;exact⟨hk,by simpa using h1⟩
def failsP(l:List (Nat×Nat))(id:Nat):List (Nat×Nat)×Bool:=
 match atP l id with
 |none=>(l,false)
 |some k=>if(l.getD k (0,0)).2=0 then(l,false)else(l.set k ((l.getD k (0,0)).1,(l.getD k (0,0)).2-1),true)
structure RS where
 room:Nat
 L:List (Nat×Nat)
 nr:List (Nat×Nat)
 ns:List (Nat×Nat)
 rd:Nat
 wr:Nat
 stops:Bool
 left:Int
def RS.stopped(s:RS):Bool:=s.stops&&decide (s.left<=0)
def RS.read(s:RS)(id:Nat):(Nat×Nat)×RS:=
 match atP s.L id with
 |none=>((0,3),s)
 |some k=>if s.stopped=true then((0,7),s)else if(failsP s.nr id).2=true then((0,7),{s with nr:=(failsP s.nr id).1})else(((s.L.getD k (0,0)).2,0),{s with rd:=s.rd+1,left:=s.left-1})
def RS.write(s:RS)(id v:Nat):Nat×RS:=
 match atP s.L id with
 |none=>(3,s)
 |some k=>if s.stopped=true then(7,s)else if(failsP s.ns id).2=true then(7,{s with ns:=(failsP s.ns id).1})else(0,{s with L:=s.L.set k ((s.L.getD k (0,0)).1,v),wr:=s.wr+1,left:=s.left-1})
def RS.free(s:RS)(id:Nat):Nat×RS:=
 match atP s.L id with
 |none=>(3,s)
 |some k=>(0,{s with L:=s.L.take k++s.L.drop (k+1)})
def RS.ins(s:RS)(k:Nat):RS:={s with L:=s.L.take k++[(k+1,0)]++s.L.drop k}
structure Gap(L:List (Nat×Nat))(k:Nat):Prop where
 le:k<=L.length
 all:∀j (hj:j<L.length),j<k->L[j].1=j+1
 not:∀hk:k<L.length,¬L[k].1=k+1
end
section
open Go.Maps Go.RowKit
def plR(pg:Nat->Bool×Nat)(a n:Nat):List (Nat×Nat):=((List.range' a n).filter λi=>(pg i).1).map λi=>(i+1,(pg i).2)
def plL(pg:Nat->Bool×Nat)(n:Nat):List (Nat×Nat):=plR pg 0 n
theorem plR_add(pg:Nat->Bool×Nat)(a m n:Nat):plR pg a (m+n)=plR pg a m++plR pg (a+m) n:=by
 unfold plR;rw[<-List.range'_append_1,List.filter_append,List.map_append]
theorem plR_one(pg:Nat->Bool×Nat)(a:Nat):plR pg a 1=if(pg a).1=true then[(a+1,(pg a).2)]else[]:=by
 unfold plR;by_cases h:(pg a).1=true<;>simp[h]
theorem plR_congr{pg pg':Nat->Bool×Nat}{a n:Nat}(h:∀i,a<=i->i<a+n->pg i=pg' i):plR pg a n=plR pg' a n:=by
 induction n generalizing a with
 |zero=>rfl
 |succ n ih=>
  have e1:=plR_add pg a 1 n;have e2:=plR_add pg' a 1 n;rw[Nat.add_comm n 1,e1,e2,plR_one,plR_one,h a (by omega) (by omega),ih (a:=a+1) (λi h1 h2=>h i (by omega) (by omega))]
theorem plR_mem{pg:Nat->Bool×Nat}{a n:Nat}{p:Nat×Nat}:p∈plR pg a n↔∃i,a<=i/\i<a+n/\(pg i).1=true/\p=(i+1,(pg i).2):=by
 unfold plR;simp only[List.mem_map,List.mem_filter,List.mem_range'_1];constructor
 .rintro⟨i,⟨⟨h1,h2⟩,h3⟩,rfl⟩;exact⟨i,h1,h2,h3,rfl⟩
 .rintro⟨i,h1,h2,h3,rfl⟩;exact⟨i,⟨⟨h1,h2⟩,h3⟩,rfl⟩
theorem plR_len(pg:Nat->Bool×Nat)(a n:Nat):(plR pg a n).length<=n:=by
 unfold plR;rw[List.length_map];exact Nat.le_trans (List.length_filter_le _ _) (by rw[List.length_range'];exact Nat.le_refl _)
theorem plR_full{pg:Nat->Bool×Nat}{a n:Nat}(h:∀i,a<=i->i<a+n->(pg i).1=true):(plR pg a n).length=n:=by
 unfold plR;rw[List.length_map,List.filter_eq_self.2 (λi hi=>by rw[List.mem_range'_1]at hi;exact h i hi.1 hi.2),List.length_range']
theorem plL_split(pg:Nat->Bool×Nat){i n:Nat}(h:i<n):plL pg n=plL pg i++(plR pg i 1++plR pg (i+1) (n-i-1)):=by
 unfold plL;have e:=plR_add pg 0 i (1+(n-i-1));rw[show i+(1+(n-i-1))=n from by omega,Nat.zero_add,plR_add]at e;exact e
theorem plL_short{pg:Nat->Bool×Nat}{i n:Nat}(h:i<n)(hf:(pg i).1=false):(plL pg n).length<n:=by
 rw[plL_split pg h,plR_one,hf];have h1:=plR_len pg 0 i;have h2:=plR_len pg (i+1) (n-i-1);unfold plL;simp only[List.length_append];simp;omega
theorem ids_plR(pg:Nat->Bool×Nat)(n:Nat):idsL pg n=(plL pg n).map (·.1):=by
 unfold idsL plL plR;rw[List.map_map,List.range_eq_range'];rfl
theorem atP_split{A B:List (Nat×Nat)}{id v:Nat}(h:∀p∈A,¬p.1=id):atP (A++(id,v)::B) id=some A.length:=by
 refine atP_some (k:=A.length) (by simp) (by simp) (λj hj=>?_);rw[List.getElem_append_left hj];exact h _ (List.getElem_mem hj)
theorem atP_no{L:List (Nat×Nat)}{id:Nat}(h:∀p∈L,¬p.1=id):atP L id=none:=atP_none (λk hk=>h _ (List.getElem_mem hk))
theorem plL_at{pg:Nat->Bool×Nat}{n id:Nat}(h1:1<=id)(h2:id<=n)(h3:(pg (id-1)).1=true):plL pg n=plL pg (id-1)++(id,(pg (id-1)).2)::plR pg id (n-id)/\atP (plL pg n) id=some (plL pg (id-1)).length:=by
 have e:plL pg n=plL pg (id-1)++(id,(pg (id-1)).2)::plR pg id (n-id):=by
  rw[plL_split pg (i:=id-1) (by omega),plR_one,if_pos h3,show id-1+1=id from by omega,show n-(id-1)-1=n-id from by omega];rfl
 refine⟨e,?_⟩;rw[e];refine atP_split (λp hp=>?_);unfold plL at hp;obtain⟨i,_,q,_,rfl⟩:=plR_mem.1 hp
 show¬i+1=id
 omega
theorem plL_none{pg:Nat->Bool×Nat}{n id:Nat}(h:¬(1<=id/\id<=n/\(pg (id-1)).1=true)):atP (plL pg n) id=none:=by
 refine atP_no (λp hp q=>?_);unfold plL at hp;obtain⟨i,_,h2,h3,rfl⟩:=plR_mem.1 hp;have q:i+1=id:=q;subst q;exact h ⟨by omega,by omega,by rw[Nat.add_sub_cancel];exact h3⟩
theorem plL_upd{pg:Nat->Bool×Nat}{n id:Nat}(h1:1<=id)(h2:id<=n)(b:Bool)(v:Nat):plL (upd pg (id-1) (b,v)) n=plL pg (id-1)++((if b=true then[(id,v)]else[])++plR pg id (n-id)):=by
 rw[plL_split _ (i:=id-1) (by omega),plR_one,upd_same,show id-1+1=id from by omega,show n-(id-1)-1=n-id from by omega];have e1:plL (upd pg (id-1) (b,v)) (id-1)=plL pg (id-1):=plR_congr (λi _ q=>upd_other _ _ (by omega));have e2:plR (upd pg (id-1) (b,v)) id (n-id)=plR pg id (n-id):=plR_congr (λi q _=>upd_other _ _ (by omega));rw[e1,e2]
theorem plL_set{pg:Nat->Bool×Nat}{n id:Nat}(h1:1<=id)(h2:id<=n)(h3:(pg (id-1)).1=true)(v:Nat):(plL pg n).set (plL pg (id-1)).length (((plL pg n).getD (plL pg (id-1)).length (0,0)).1,v)=plL (upd pg (id-1) ((pg (id-1)).1,v)) n/\(plL pg n).getD (plL pg (id-1)).length (0,0)=(id,(pg (id-1)).2):=by
 have e:=(plL_at h1 h2 h3).1;have g:(plL pg n).getD (plL pg (id-1)).length (0,0)=(id,(pg (id-1)).2):=by rw[e];simp
 refine⟨?_,g⟩;rw[g,h3,plL_upd h1 h2,if_pos rfl]
 conv=>lhs;rw[e]
 simp
theorem plL_cut{pg:Nat->Bool×Nat}{n id:Nat}(h1:1<=id)(h2:id<=n)(h3:(pg (id-1)).1=true):(plL pg n).take (plL pg (id-1)).length++(plL pg n).drop ((plL pg (id-1)).length+1)=plL (upd pg (id-1) (false,0)) n:=by
 have e:=(plL_at h1 h2 h3).1;rw[plL_upd h1 h2,if_neg (by simp),e];simp
theorem plL_gap{pg:Nat->Bool×Nat}{n k:Nat}(h:Gap (plL pg n) k):k<=n/\(∀j,j<k->(pg j).1=true)/\(k<n->(pg k).1=false)/\(plL pg n).take k++[(k+1,0)]++(plL pg n).drop k=plL (upd pg k (true,0)) (max n (k+1)):=by
 have hall:∀j,j<k->j<n/\(pg j).1=true:=by
  intro j hj;have hl:j<(plL pg n).length:=by have:=h.le;omega
  have hm:=List.getElem_mem hl;have ha:=h.all j hl hj;unfold plL at hm;obtain⟨i,_,q2,q3,q4⟩:=plR_mem.1 hm
  have e:i=j:=by
   have:((plL pg n)[j]).1=i+1:=by unfold plL;rw[q4]
   omega
  subst e;exact⟨by omega,q3⟩
 have hkn:k<=n:=by
  rcases Nat.eq_zero_or_pos k with q|q
  .omega
  .have:=(hall (k-1) (by omega)).1;omega
 have hfull:(plL pg k).length=k:=plR_full (λi _ q=>(hall i (by omega)).2)
 have esp:plL pg n=plL pg k++plR pg k (n-k):=by
  have:=plR_add pg 0 k (n-k);rw[show k+(n-k)=n from by omega,Nat.zero_add]at this;exact this
 have hnot:k<n->(pg k).1=false:=by
  intro q
  cases hb:(pg k).1 with
  |false=>rfl
  |true=>
   have e2:=plR_add pg k 1 (n-k-1);rw[show 1+(n-k-1)=n-k from by omega,plR_one,if_pos hb]at e2;have hl:k<(plL pg n).length:=by rw[esp,e2,List.length_append,hfull];simp
   have:=h.not hl;refine(this ?_).elim
   have e3:(plL pg n)[k]?=some (k+1,(pg k).2):=by
    rw[esp,e2,List.getElem?_append_right (by omega),hfull];simp
   rw[List.getElem?_eq_getElem hl]at e3;rw[Option.some.inj e3]
 refine⟨hkn,λj q=>(hall j q).2,hnot,?_⟩;have et:(plL pg n).take k=plL pg k:=by rw[esp];exact List.take_left' hfull
 have ed:(plL pg n).drop k=plR pg k (n-k):=by rw[esp];exact List.drop_left' hfull
 rw[et,ed];have ek:plL (upd pg k (true,0)) k=plL pg k:=plR_congr (λi _ q=>upd_other _ _ (by omega));by_cases q:k<n
 .rw[show max n (k+1)=n from by omega,plL_split _ q,plR_one,upd_same,if_pos rfl,ek]
  have e2:=plR_add pg k 1 (n-k-1);rw[show 1+(n-k-1)=n-k from by omega,plR_one,if_neg (by rw[hnot q];simp)]at e2;have e4:plR (upd pg k (true,0)) (k+1) (n-k-1)=plR pg (k+1) (n-k-1):=plR_congr (λi q _=>upd_other _ _ (by omega));rw[e2,e4];simp
 .obtain rfl:k=n:=by omega
  rw[show max k (k+1)=k+1 from by omega,plL_split (upd pg k (true,0)) (i:=k) (n:=k+1) (by omega),plR_one,upd_same,if_pos rfl,ek,show k+1-k-1=0 from by omega,Nat.sub_self];simp[plR]
theorem Gap.same{L:List (Nat×Nat)}{k k':Nat}(h:Gap L k)(h':Gap L k'):k=k':=by
 rcases Nat.lt_trichotomy k k' with q|q|q
 .have hl:k<L.length:=by have:=h'.le;omega
  exact(h.not hl (h'.all k hl q)).elim
 .exact q
 .have hl:k'<L.length:=by have:=h.le;omega
  exact(h'.not hl (h.all k' hl q)).elim
def valP(l:List (Nat×Nat))(id:Nat):Nat:=match atP l id with
 |none=>0
 |some k=>(l.getD k (0,0)).2
theorem atP_of{l:List (Nat×Nat)}{id:Nat}:(atP l id=none/\∀p∈l,¬p.1=id)\/∃A v B,l=A++(id,v)::B/\(∀p∈A,¬p.1=id)/\atP l id=some A.length/\valP l id=v:=by
 induction l with
 |nil=>exact .inl ⟨rfl,λp hp=>(by cases hp)⟩
 |cons a l ih=>
  by_cases e:a.1=id
  .obtain⟨a1,a2⟩:=a
   have e:a1=id:=e;subst e;have h1:atP ((a1,a2)::l) a1=some 0:=atP_split (A:=[]) (λp hp=>(by cases hp));exact .inr ⟨[],a2,l,rfl,λp hp=>(by cases hp),h1,by unfold valP;rw[h1];rfl⟩
  .rcases ih with⟨h1,h2⟩|⟨A,v,B,rfl,h2,h3,h4⟩
   .have h5:∀p∈a::l,¬p.1=id:=λp hp=>by
     rcases List.mem_cons.1 hp with rfl|q
     .exact e
     .exact h2 p q
    exact .inl ⟨atP_no h5,h5⟩
   .have h5:∀p∈a::A,¬p.1=id:=λp hp=>by
     rcases List.mem_cons.1 hp with rfl|q
     .exact e
     .exact h2 p q
    have h6:atP (a::(A++(id,v)::B)) id=some (a::A).length:=atP_split h5;exact .inr ⟨a::A,v,B,rfl,h5,h6,by unfold valP;rw[h6];simp⟩
theorem valP_split{A B:List (Nat×Nat)}{id v:Nat}(h:∀p∈A,¬p.1=id):valP (A++(id,v)::B) id=v:=by
 unfold valP;rw[atP_split h];simp
theorem valP_other{A B:List (Nat×Nat)}{id v v' x:Nat}(hx:¬x=id):valP (A++(id,v)::B) x=valP (A++(id,v')::B) x:=by
 induction A with
 |nil=>
  rcases atP_of (l:=B) (id:=x)with⟨h1,h2⟩|⟨A',u,B',rfl,h2,h3,h4⟩
  .have g:∀v,valP ([]++(id,v)::B) x=0:=λv=>by
    unfold valP
    rw[atP_no (λp hp=>by
     rcases List.mem_cons.1 hp with rfl|q
     .exact λq=>hx q.symm
     .exact h2 p q)]
   rw[g,g]
  .have g:∀v,valP ([]++(id,v)::(A'++(x,u)::B')) x=u:=λv=>valP_split (A:=(id,v)::A') (λp hp=>by
     rcases List.mem_cons.1 hp with rfl|q
     .exact λq=>hx q.symm
     .exact h2 p q)
   rw[g,g]
 |cons a A ih=>
  by_cases e:a.1=x
  .obtain⟨a1,a2⟩:=a
   have e:a1=x:=e;subst e;have g:∀l,valP ((a1,a2)::l) a1=a2:=λl=>valP_split (A:=[]) (λp hp=>(by cases hp))
   exact(g _).trans (g _).symm
  .have g:∀l:List (Nat×Nat),valP (a::l) x=valP l x:=λl=>by
    rcases atP_of (l:=l) (id:=x)with⟨h1,h2⟩|⟨A',u,B',rfl,h2,h3,h4⟩
    .unfold valP
     rw[h1,atP_no (λp hp=>by
      rcases List.mem_cons.1 hp with rfl|q
      .exact e
      .exact h2 p q)]
    .rw[h4]
     exact valP_split (A:=a::A') (λp hp=>by
      rcases List.mem_cons.1 hp with rfl|q
      .exact e
      .exact h2 p q)
   show valP (a::(A++(id,v)::B)) x=valP (a::(A++(id,v')::B)) x
   rw[g,g];exact ih
theorem failsP_is(l:List (Nat×Nat))(id:Nat):(failsP l id).2=decide (¬valP l id=0)/\∀x,valP (failsP l id).1 x=if x=id then valP l id-1 else valP l x:=by
 rcases atP_of (l:=l) (id:=id)with⟨h1,h2⟩|⟨A,v,B,rfl,h2,h3,h4⟩
 .have hv:valP l id=0:=by unfold valP;rw[h1]
  have e:failsP l id=(l,false):=by unfold failsP;rw[h1]
  rw[e,hv];refine⟨by simp,λx=>?_⟩
  split
  .rename_i q;rw[q,hv]
  .rfl
 .have g:(A++(id,v)::B).getD A.length (0,0)=(id,v):=by simp
  rw[h4];by_cases hz:v=0
  .subst hz
   have e:failsP (A++(id,0)::B) id=(A++(id,0)::B,false):=by unfold failsP;rw[h3];simp only[g,if_true]
   rw[e];refine⟨by simp,λx=>?_⟩
   split
   .rename_i q;rw[q,h4]
   .rfl
  .have e:failsP (A++(id,v)::B) id=(A++(id,v-1)::B,true):=by
    unfold failsP;rw[h3];simp only[g,hz,if_false];simp
   rw[e];refine⟨by simp[hz],λx=>?_⟩
   split
   .rename_i q;rw[q];exact valP_split h2
   .rename_i q;exact valP_other q
structure DRel(s:DS)(r:RS):Prop where
 room:r.room=s.room
 L:r.L=plL s.pg s.np
 rd:r.rd=s.rd
 wr:r.wr=s.wr
 st:r.stops=s.stops
 le:s.stops=true->r.left=(s.left:Int)
 nr:∀id,1<=id->id<=s.room->valP r.nr id=s.fl (id,false)
 ns:∀id,1<=id->id<=s.room->valP r.ns id=s.fl (id,true)
 np:s.np<=s.room
section
variable{s:DS}{r:RS}
theorem DRel.stopped(h:DRel s r):r.stopped=decide (s.stops=true/\s.left=0):=by
 unfold RS.stopped;rw[h.st]
 cases hs:s.stops with
 |false=>simp
 |true=>rw[h.le hs];simp<;>omega
theorem DRel.has(h:DRel s r)(id:Nat):(s.has id=true/\1<=id/\id<=s.np/\(s.pg (id-1)).1=true/\atP r.L id=some (plL s.pg (id-1)).length)\/(s.has id=false/\atP r.L id=none):=by
 rw[h.L];by_cases q:1<=id/\id<=s.np/\(s.pg (id-1)).1=true
 .exact .inl ⟨by unfold DS.has;simp[q.1,q.2.1,q.2.2],q.1,q.2.1,q.2.2,(plL_at q.1 q.2.1 q.2.2).2⟩
 .refine .inr ⟨?_,plL_none q⟩
  unfold DS.has
  cases hb:(s.pg (id-1)).1 with
  |false=>simp
  |true=>
   have:¬(1<=id/\id<=s.np):=λk=>q ⟨k.1,k.2,hb⟩
   simp[this]
theorem DRel.read(h:DRel s r)(id:Nat):(s.read id).1=(r.read id).1/\DRel (s.read id).2 (r.read id).2:=by
 rcases h.has id with⟨hh,h1,h2,h3,hat⟩|⟨hh,hat⟩
 .have hst:=h.stopped
  by_cases q:s.stops=true/\s.left=0
  .have e1:s.read id=((0,7),s):=by unfold DS.read DS.att;rw[hh];simp[q.1,q.2]
   have e2:r.read id=((0,7),r):=by unfold RS.read;rw[hat];simp only[hst,q,and_self,decide_true,if_true]
   rw[e1,e2];exact⟨rfl,h⟩
  .obtain⟨f1,f2⟩:=failsP_is r.nr id
   rw[h.nr id h1 (by have:=h.np;omega)]at f1 f2;by_cases z:s.fl (id,false)=0
   .have e2:r.read id=(((s.pg (id-1)).2,0),{r with rd:=r.rd+1,left:=r.left-1}):=by
     unfold RS.read;rw[hat];simp only[hst,q,decide_false,f1,z,not_true,Bool.false_eq_true,if_false];rw[h.L,(plL_set h1 h2 h3 0).2]
    rw[e2]
    cases hs:s.stops with
    |false=>
     have e1:s.read id=(((s.pg (id-1)).2,0),{s with rd:=s.rd+1}):=by unfold DS.read DS.att;rw[hh];simp[hs,z]
     rw[e1];exact⟨rfl,h.room,h.L,congrArg (· +1) h.rd,h.wr,h.st,(λk=>by rw[show s.stops=true from k]at hs;cases hs),h.nr,h.ns,h.np⟩
    |true=>
     have hl:=h.le hs;have hl0:¬s.left=0:=λk=>q ⟨hs,k⟩
     have e1:s.read id=(((s.pg (id-1)).2,0),{s with left:=s.left-1,rd:=s.rd+1}):=by unfold DS.read DS.att;rw[hh];simp[hs,z,hl0]
     rw[e1];exact⟨rfl,h.room,h.L,congrArg (· +1) h.rd,h.wr,h.st,(λ_=>by show r.left-1=((s.left-1:Nat):Int);omega),h.nr,h.ns,h.np⟩
   .have e1:s.read id=((0,7),{s with fl:=updK s.fl (id,false) (s.fl (id,false)-1)}):=by unfold DS.read DS.att;rw[hh];simp[q,z]
    have e2:r.read id=((0,7),{r with nr:=(failsP r.nr id).1}):=by unfold RS.read;rw[hat];simp[hst,q,f1,z]
    rw[e1,e2];refine⟨rfl,h.room,h.L,h.rd,h.wr,h.st,h.le,λx x1 x2=>?_,λx x1 x2=>?_,h.np⟩
    .show valP (failsP r.nr id).1 x=updK s.fl (id,false) (s.fl (id,false)-1) (x,false)
     rw[f2 x];unfold updK;by_cases e:x=id
     .simp[e]
     .simp[e];exact h.nr x x1 x2
    .show valP r.ns x=updK s.fl (id,false) (s.fl (id,false)-1) (x,true)
     unfold updK;simp;exact h.ns x x1 x2
 .have e1:s.read id=((0,3),s):=by unfold DS.read DS.att;rw[hh];simp
  have e2:r.read id=((0,3),r):=by unfold RS.read;rw[hat]
  rw[e1,e2];exact⟨rfl,h⟩
theorem DRel.write(h:DRel s r)(id v:Nat):(s.write id v).1=(r.write id v).1/\DRel (s.write id v).2 (r.write id v).2:=by
 rcases h.has id with⟨hh,h1,h2,h3,hat⟩|⟨hh,hat⟩
 .have hst:=h.stopped
  by_cases q:s.stops=true/\s.left=0
  .have e1:s.write id v=(7,s):=by unfold DS.write DS.att;rw[hh];simp[q.1,q.2]
   have e2:r.write id v=(7,r):=by unfold RS.write;rw[hat];simp only[hst,q,and_self,decide_true,if_true]
   rw[e1,e2];exact⟨rfl,h⟩
  .obtain⟨f1,f2⟩:=failsP_is r.ns id
   rw[h.ns id h1 (by have:=h.np;omega)]at f1 f2;by_cases z:s.fl (id,true)=0
   .have e2:r.write id v=(0,{r with L:=plL (upd s.pg (id-1) ((s.pg (id-1)).1,v)) s.np,wr:=r.wr+1,left:=r.left-1}):=by
     unfold RS.write;rw[hat];simp only[hst,q,decide_false,f1,z,not_true,Bool.false_eq_true,if_false];rw[h.L,(plL_set h1 h2 h3 v).1]
    rw[e2]
    cases hs:s.stops with
    |false=>
     have e1:s.write id v=(0,{s with wr:=s.wr+1,pg:=upd s.pg (id-1) ((s.pg (id-1)).1,v)}):=by unfold DS.write DS.att;rw[hh];simp[hs,z]
     rw[e1];exact⟨rfl,h.room,rfl,h.rd,congrArg (· +1) h.wr,h.st,(λk=>by rw[show s.stops=true from k]at hs;cases hs),h.nr,h.ns,h.np⟩
    |true=>
     have hl:=h.le hs;have hl0:¬s.left=0:=λk=>q ⟨hs,k⟩
     have e1:s.write id v=(0,{s with left:=s.left-1,wr:=s.wr+1,pg:=upd s.pg (id-1) ((s.pg (id-1)).1,v)}):=by unfold DS.write DS.att;rw[hh];simp[hs,z,hl0]
     rw[e1];exact⟨rfl,h.room,rfl,h.rd,congrArg (· +1) h.wr,h.st,(λ_=>by show r.left-1=((s.left-1:Nat):Int);omega),h.nr,h.ns,h.np⟩
   .have e1:s.write id v=(7,{s with fl:=updK s.fl (id,true) (s.fl (id,true)-1)}):=by unfold DS.write DS.att;rw[hh];simp[q,z]
    have e2:r.write id v=(7,{r with ns:=(failsP r.ns id).1}):=by unfold RS.write;rw[hat];simp[hst,q,f1,z]
    rw[e1,e2];refine⟨rfl,h.room,h.L,h.rd,h.wr,h.st,h.le,λx x1 x2=>?_,λx x1 x2=>?_,h.np⟩
    .show valP r.nr x=updK s.fl (id,true) (s.fl (id,true)-1) (x,false)
     unfold updK;simp;exact h.nr x x1 x2
    .show valP (failsP r.ns id).1 x=updK s.fl (id,true) (s.fl (id,true)-1) (x,true)
     rw[f2 x];unfold updK;by_cases e:x=id
     .simp[e]
     .simp[e];exact h.ns x x1 x2
 .have e1:s.write id v=(3,s):=by unfold DS.write DS.att;rw[hh];simp
  have e2:r.write id v=(3,r):=by unfold RS.write;rw[hat]
  rw[e1,e2];exact⟨rfl,h⟩
theorem DRel.free_no(h:DRel s r){id:Nat}(hh:s.has id=false):r.free id=(3,r):=by
 rcases h.has id with⟨q,_⟩|⟨_,hat⟩
 .rw[hh]at q;cases q
 .unfold RS.free;rw[hat]
theorem DRel.free_yes(h:DRel s r){id:Nat}(hh:s.has id=true):(r.free id).1=0/\DRel (s.gone id) (r.free id).2:=by
 rcases h.has id with⟨_,h1,h2,h3,hat⟩|⟨q,_⟩
 .have e:r.free id=(0,{r with L:=plL (upd s.pg (id-1) (false,0)) s.np}):=by
   unfold RS.free;rw[hat,h.L];simp only[plL_cut h1 h2 h3]
  rw[e];exact⟨rfl,h.room,rfl,h.rd,h.wr,h.st,h.le,h.nr,h.ns,h.np⟩
 .rw[hh]at q;cases q
def DS.put(s:DS)(k:Nat):DS:={s with np:=max s.np (k+1),pg:=upd s.pg k (true,0)}
theorem DRel.put(h:DRel s r){k:Nat}(hg:Gap r.L k)(hl:r.L.length<r.room):DRel (s.put k) (r.ins k):=by
 rw[h.L]at hg hl;obtain⟨g1,g2,g3,g4⟩:=plL_gap hg;refine⟨h.room,?_,h.rd,h.wr,h.st,h.le,h.nr,h.ns,?_⟩
 .show r.L.take k++[(k+1,0)]++r.L.drop k=_
  rw[h.L];exact g4
 .show max s.np (k+1)<=s.room
  have hnp:=h.np;rw[h.room]at hl;rcases Nat.lt_or_ge k s.np with q|q
  .omega
  .have e:k=s.np:=by omega
   subst e;have:(plL s.pg s.np).length=s.np:=plR_full (λi _ q=>g2 i (by omega));omega
end
section
variable{w0 w w' w1:World}{db rb m m' c mb nf ob:Nat}{s s1:DS}{r r1:RS}{pv fv lv nv sv:Value}{fh:Nat->Nat}{oc:Nat->Value}
theorem DS.read_b(s:DS)(id:Nat):(s.read id).2.rd<=s.rd+1/\(s.read id).2.wr=s.wr:=by
 obtain⟨a1,a2,a3,a4,a5⟩:=s.att_2 id false;unfold DS.read
 split
 .exact⟨Nat.le_refl _,a5⟩
 .exact⟨by show(s.att id false).2.rd<=_;omega,a5⟩
theorem DS.write_b(s:DS)(id v:Nat):(s.write id v).2.rd=s.rd/\(s.write id v).2.wr<=s.wr+1:=by
 obtain⟨a1,a2,a3,a4,a5⟩:=s.att_2 id true;unfold DS.write
 split
 .exact⟨a4,Nat.le_refl _⟩
 .exact⟨a4,by show(s.att id true).2.wr<=_;omega⟩
end
end
section
open Go.RowKit
theorem u64_range(z:Int):0<=IntKind.u64.wrap z/\IntKind.u64.wrap z<18446744073709551616:=by
 simp only[IntKind.wrap,IntKind.signed,IntKind.bits];simp;omega
theorem w64_small{z:Int}(h0:0<=z)(h1:z<1000000):wrap64 z=z:=by
 have:=IntKind.wrap_i64 z;unfold wrap64;omega
theorem modu(z:Int){k:Int}(h0:0<k)(h1:k<1000):∃r:Nat,(r:Int)<k/\wrap64 ((IntKind.u64.wrap z).tmod k)=r:=by
 obtain⟨a,b⟩:=u64_range z;have h2:(IntKind.u64.wrap z).tmod k=(IntKind.u64.wrap z)%k:=Int.tmod_eq_emod_of_nonneg a;have h3:0<=(IntKind.u64.wrap z)%k:=Int.emod_nonneg _ (by omega);have h4:(IntKind.u64.wrap z)%k<k:=Int.emod_lt_of_pos _ h0;refine⟨((IntKind.u64.wrap z)%k).toNat,by omega,?_⟩;rw[h2,w64_small h3 (by omega)];omega
theorem modu1(z:Int){k:Int}(h0:0<k)(h1:k<1000):∃m:Nat,1<=m/\(m:Int)<=k/\wrap64 (1+wrap64 ((IntKind.u64.wrap z).tmod k))=(m:Int):=by
 obtain⟨r,h2,h3⟩:=modu z h0 h1;exact⟨r+1,by omega,by omega,by rw[h3,w64_small (by omega) (by omega)];omega⟩
end
end Go.Proofs.YtpkbkhffglikhaaGreatDoor
