/- Part 32. -/
import Derived.Test.YtoenclhimbpfeaaGreatDoorW31
import Derived.Test.YtoenclhimbpfeaaGreatDoorW30
import Derived.StillTailTactics
namespace Go.Proofs.YtoenclhimbpfeaaGreatDoor
set_option linter.all false
set_option maxHeartbeats 16000000
set_option maxRecDepth 100000
section
open Go.Proofs.Tryz Go.RowKit
def Led(R:World->(Nat->Prop)->Prop)(F:Nat->Prop)(w w':World):Prop:=∃F',R w' F'/\Fr F w w'/\∀i,F' i->F i\/w.heap.size<=i
def CD(db:Nat)(r:RS)(m:Nat)(w:World)(F:Nat->Prop):Prop:=∃s c pv fv mb fh nf,DC w db s c pv fv mb fh nf/\DLt s r/\(c<=m/\s.rd<=m/\s.wr<=m)/\∀i,F i↔FD db pv fv mb i
theorem vy(L:List (Nat×Nat)):∃k,Gap L k:=by
 have key:∀d k,L.length-k=d->k<=L.length->(∀j (hj:j<L.length),j<k->L[j].1=j+1)->∃k,Gap L k:=by
  intro d
  induction d with
  |zero=>exact λk hd hk ha=>⟨k,hk,ha,λq=>by omega⟩
  |succ d ih=>
   intro k hd hk ha;by_cases h:L[k].1=k+1
   .refine ih (k+1) (by omega) (by omega) (λj hj hjk=>?_)
    by_cases e:j=k
    .subst e;exact h
    .exact ha j hj (by omega)
   .exact⟨k,hk,ha,λ_=>h⟩
 exact key _ 0 rfl (by omega) (λj hj h=>by omega)
noncomputable def ag(L:List (Nat×Nat)):Nat:=Classical.choose (vy L)
theorem cC(L:List (Nat×Nat)):Gap L (ag L):=Classical.choose_spec (vy L)
def RS.has(r:RS)(id:Nat):Bool:=(atP r.L id).isSome
section
variable{w w':World}{db m:Nat}{r:RS}{F:Nat->Prop}
theorem CD.fr(h:CD db r m w F){G:Nat->Prop}(f:Fr G w w')(hG:∀i,F i->¬G i):CD db r m w' F:=by
 obtain⟨s,c,pv,fv,mb,fh,nf,h1,h2,h3,h4⟩:=h;exact⟨s,c,pv,fv,mb,fh,nf,h1.fr f (λi q=>hG i ((h4 i).2 q)),h2,h3,h4⟩
theorem CD.fr0(h:CD db r m w F)(f:Fr NoF w w'):CD db r m w' F:=h.fr f (λ_ _ q=>q)
theorem CD.lt(h:CD db r m w F):∀i,F i->i<w.heap.size:=by
 obtain⟨s,c,pv,fv,mb,fh,nf,h1,h2,h3,h4⟩:=h;exact λi q=>h1.lt i ((h4 i).1 q)
theorem CD.more(h:CD db r m w F){k:Nat}(hk:m<=k):CD db r k w F:=by
 obtain⟨s,c,pv,fv,mb,fh,nf,h1,h2,h3,h4⟩:=h;exact⟨s,c,pv,fv,mb,fh,nf,h1,h2,by omega,h4⟩
theorem CD.room(h:CD db r m w F):1<=r.room/\r.room<=65535:=by
 obtain⟨s,c,pv,fv,mb,fh,nf,h1,h2,h3,h4⟩:=h;rw[h2.room];exact h1.r1
theorem CD.ids(h:CD db r m w F):∀x∈r.L,1<=x.1/\x.1<=r.room:=by
 obtain⟨s,c,pv,fv,mb,fh,nf,h1,h2,h3,h4⟩:=h;intro x hx;rw[h2.L]at hx;obtain⟨i,_,hi,_,e⟩:=ka.1 hx;have:=h2.np;have:=h2.room;rw[e];exact⟨by show 1<=i+1;omega,by show i+1<=r.room;omega⟩
theorem tW(h:CD db r m w F)(hm:m<100000){id:Nat}(hu:aN id):Calls prog 13 #[.pointer (some ⟨db,0,none⟩),.int .u32 id] w λe w'=>e=.returned (.tuple #[.int .u64 (r.read id).1.1,.int .i64 (r.read id).1.2])/\Led (CD db (r.read id).2 (m+1)) F w w':=by
 obtain⟨s,c,pv,fv,mb,fh,nf,h1,h2,⟨b1,b2,b3⟩,h4⟩:=h;obtain⟨r1,r2⟩:=s.read_b id;obtain⟨q1,q2⟩:=h2.read id (by omega);rw[<-q1];refine(CW h1 hu (by omega)).mono ?_;rintro e w'⟨he,⟨c',hc,hd⟩,f⟩;exact⟨he,F,⟨_,c',pv,fv,mb,fh,nf,hd,q2,⟨by omega,by omega,by omega⟩,h4⟩,f.mono (λi q=>(h4 i).2 (q.elim .inl (λq=>.inr (.inl q)))),λi q=>.inl q⟩
theorem zW(h:CD db r m w F)(hm:m<100000){id:Nat}(hu:aN id)(v:Nat):Calls prog 94 #[.pointer (some ⟨db,0,none⟩),.int .u32 id,.int .u64 v] w λe w'=>e=.returned (.int .i64 (r.write id v).1)/\Led (CD db (r.write id v).2 (m+1)) F w w':=by
 obtain⟨s,c,pv,fv,mb,fh,nf,h1,h2,⟨b1,b2,b3⟩,h4⟩:=h;obtain⟨r1,r2⟩:=s.write_b id v;obtain⟨q1,q2⟩:=h2.write id v (by omega);rw[<-q1];refine(BL h1 hu v (by omega)).mono ?_;rintro e w'⟨he,⟨c',hc,hd⟩,f⟩;exact⟨he,F,⟨_,c',pv,fv,mb,fh,nf,hd,q2,⟨by omega,by omega,by omega⟩,h4⟩,f.mono (λi q=>(h4 i).2 (by rcases q with q|q|q;exact .inl q;exact .inr (.inl q);exact .inr (.inr (.inl q)))),λi q=>.inl q⟩
theorem Cz(h:CD db r m w F){id:Nat}(hu:aN id):Calls prog 63 #[.pointer (some ⟨db,0,none⟩),.int .u32 id] w λe w'=>e=.returned (.int .i64 (r.free id).1)/\Led (CD db (r.free id).2 m) F w w':=by
 obtain⟨s,c,pv,fv,mb,fh,nf,h1,h2,h3,h4⟩:=h
 cases hh:s.has id with
 |false=>
  rw[h2.free_no hh];refine(rP h1 hu hh).mono ?_;rintro e w'⟨he,rfl⟩;exact⟨he,F,⟨s,c,pv,fv,mb,fh,nf,h1,h2,h3,h4⟩,Fr.refl _ _,λi q=>.inl q⟩
 |true=>
  obtain⟨q1,q2⟩:=h2.free_yes hh;rw[q1];refine(rC h1 hu hh).mono ?_;rintro e w'⟨he,⟨fv',hd,ho⟩,f⟩;refine⟨he,FD db pv fv' mb,⟨_,c,pv,fv',mb,_,_,hd,q2,h3,λi=>Iff.rfl⟩,f.mono (λi q=>(h4 i).2 q),λi q=>?_⟩;rcases q with q|q|q|q
  .exact .inl ((h4 i).2 (.inl q))
  .exact .inl ((h4 i).2 (.inr (.inl q)))
  .exact .inl ((h4 i).2 (.inr (.inr (.inl q))))
  .exact(ho i q).imp (λq=>(h4 i).2 (.inr (.inr (.inr q)))) (λq=>q)
theorem C3(h:CD db r m w F)(hf:r.room<=r.L.length):Calls prog 61 #[.pointer (some ⟨db,0,none⟩)] w λe w'=>e=.returned (.tuple #[.int .u32 0,.int .i64 2])/\Led (CD db r m) F w w':=by
 obtain⟨s,c,pv,fv,mb,fh,nf,h1,h2,h3,h4⟩:=h;have hf0:=hf;rw[h2.L,h2.room]at hf;have g1:=oe s.pg 0 s.np;have g2:(plL s.pg s.np).length<=s.np:=g1
 cases nf with
 |zero=>
  refine(mu h1 (by omega)).mono ?_;rintro e w'⟨he,d,rfl⟩;exact⟨he,F,⟨s,c,pv,fv,mb,fh,0,h1.fr0 ((Fr.refl NoF _).drewN d),h2,h3,h4⟩,(Fr.refl _ _).drewN d,λi q=>.inl q⟩
 |succ nf=>
  obtain⟨l1,l2,l3,l4⟩:=h1.least;have:=wb (pg:=s.pg) (i:=fh 0-1) (n:=s.np) (by omega) l3;have:=h2.np;omega
theorem Bk(h:CD db r m w F)(hf:r.L.length<r.room):Calls prog 61 #[.pointer (some ⟨db,0,none⟩)] w λe w'=>e=.returned (.tuple #[.int .u32 (ag r.L+1:Nat),.int .i64 0])/\Led (CD db (r.ins (ag r.L)) m) F w w':=by
 obtain⟨s,c,pv,fv,mb,fh,nf,h1,h2,h3,h4⟩:=h;have hput:=h2.put (cC r.L) hf;rw[h2.L,h2.room]at hf;have hg:Gap (plL s.pg s.np) (ag r.L):=by have:=cC r.L;rw[h2.L]at this⊢;exact this
 cases nf with
 |zero=>
  have hall:∀i,0<=i->i<0+s.np->(s.pg i).1=true:=by
   intro i _ hi
   cases hb:(s.pg i).1 with
   |true=>rfl
   |false=>
    obtain⟨k,q,_⟩:=(h1.fm (i+1)).2 ⟨by omega,by omega,by rw[Nat.add_sub_cancel];exact hb⟩;omega
  have hlen:(plL s.pg s.np).length=s.np:=k8 hall
  have hk:ag r.L=s.np:=by
   obtain⟨q1,q2,q3,q4⟩:=ki hg;rcases Nat.lt_or_ge (ag r.L) s.np with q|q
   .have:=q3 q;rw[hall _ (by omega) (by omega)]at this;cases this
   .omega
  rw[hk]at hput⊢;have e:s.put s.np=s.grow:=by unfold DS.put DS.grow;rw[show max s.np (s.np+1)=s.np+1 from by omega]
  rw[e]at hput;refine(nT h1 (by omega)).mono ?_;rintro e' w'⟨he,⟨pv',hd,ho⟩,f⟩;refine⟨he,FD db pv' fv mb,⟨_,c,pv',fv,mb,_,_,hd,hput,h3,λi=>Iff.rfl⟩,f.mono (λi q=>(h4 i).2 (q.elim .inl (λq=>.inr (.inr (.inl q))))),λi q=>?_⟩;rcases q with q|q|q|q
  .exact .inl ((h4 i).2 (.inl q))
  .exact .inl ((h4 i).2 (.inr (.inl q)))
  .exact(ho i q).imp (λq=>(h4 i).2 (.inr (.inr (.inl q)))) id
  .exact .inl ((h4 i).2 (.inr (.inr (.inr q))))
 |succ nf=>
  obtain⟨l1,l2,l3,l4⟩:=h1.least
  have hk:ag r.L=fh 0-1:=by
   obtain⟨q1,q2,q3,q4⟩:=ki hg
   have hj1:ag r.L<=fh 0-1:=by
    rcases Nat.lt_or_ge (fh 0-1) (ag r.L)with q|q
    .have:=q2 _ q;rw[l3]at this;cases this
    .exact q
   have:=l4 (ag r.L+1) (by omega) (by omega) (by rw[Nat.add_sub_cancel];exact q3 (by omega));omega
  rw[hk]at hput⊢;have e:s.put (fh 0-1)=s.reuse (fh 0):=by unfold DS.put DS.reuse;rw[show max s.np (fh 0-1+1)=s.np from by omega]
  rw[e]at hput;refine(nO h1).mono ?_;rintro e' w'⟨he,⟨fv',hd,ho⟩,f⟩;refine⟨by rw[show fh 0-1+1=fh 0 from by omega];exact he,FD db pv fv' mb,⟨_,c,pv,fv',mb,_,_,hd,hput,h3,λi=>Iff.rfl⟩,f.mono (λi q=>(h4 i).2 q),λi q=>?_⟩;rcases q with q|q|q|q
  .exact .inl ((h4 i).2 (.inl q))
  .exact .inl ((h4 i).2 (.inr (.inl q)))
  .exact .inl ((h4 i).2 (.inr (.inr (.inl q))))
  .exact .inl ((h4 i).2 (.inr (.inr (.inr (ho i q)))))
theorem qx(h:CD db r m w F):Calls prog 12 #[.pointer (some ⟨db,0,none⟩)] w λe w'=>∃v,e=.returned v/\OwK .u32 w.heap.size 34 w' v (r.L.map (·.1))/\Fr NoF w w':=by
 obtain⟨s,c,pv,fv,mb,fh,nf,h1,h2,h3,h4⟩:=h;have:=yq h1;rw[Di,<-h2.L]at this;exact this
theorem Fe(room:Nat)(w:World)(h1:1<=room)(h2:room<=65535):Calls prog 7 #[.int .i64 room] w λe w'=>∃db F,e=.returned (.tuple #[.pointer (some ⟨db,0,none⟩),.int .i64 0])/\CD db ⟨room,[],[],[],0,0,false,0⟩ 0 w' F/\(∀i,F i->w.heap.size<=i)/\Fr NoF w w':=by
 refine(te room w h1 h2).mono ?_;rintro e w'⟨db,pv,fv,mb,he,hd,ho,f⟩;refine⟨db,FD db pv fv mb,he,⟨_,0,pv,fv,mb,_,0,hd,.inl ⟨rfl,rfl,rfl,rfl,rfl,λq=>(by cases q),λid _ _=>rfl,λid _ _=>rfl,by show 0<=room;omega⟩,⟨by omega,by show 0<=0;omega,by show 0<=0;omega⟩,λi=>Iff.rfl⟩,ho,f⟩
end
end
section
open Go.Maps Go.Proofs.Tryz Go.RowKit
section
variable{w w':World}{p:PP}{f:Nat->FrS}{pl:Nat->Option Int}{E I:Nat->Bool}{sc m:Nat}
theorem MP.put4(H:MP w p f pl E I sc m){k:Nat}(hk:k<p.n)(x:FrS)(hx:x.id<4294967296/\x.val<18446744073709551616/\x.pins<=m){w':World}(hw:w'=(((w.setCell ⟨p.fb,k*4,none⟩ (.int .u32 (x.id:Nat))).setCell ⟨p.fb,k*4+1,none⟩ (.int .u64 (x.val:Nat))).setCell ⟨p.fb,k*4+2,none⟩ (.int .i64 (x.pins:Nat))).setCell ⟨p.fb,k*4+3,none⟩ (.bool x.dirty)):
  MP w' p (upd f k x) pl E I sc m/\Fr (λi=>i=p.fb) w w':=by
 subst hw
 have g:Fr (λi=>i=p.fb) w ((((w.setCell ⟨p.fb,k*4,none⟩ (.int .u32 (x.id:Nat))).setCell ⟨p.fb,k*4+1,none⟩ (.int .u64 (x.val:Nat))).setCell ⟨p.fb,k*4+2,none⟩ (.int .i64 (x.pins:Nat))).setCell ⟨p.fb,k*4+3,none⟩ (.bool x.dirty)):=
  ((((Fr.refl (λi=>i=p.fb) w).setCell (p:=⟨p.fb,_,none⟩) (.inl rfl) _).setCell (p:=⟨p.fb,_,none⟩) (.inl rfl) _).setCell (p:=⟨p.fb,_,none⟩) (.inl rfl) _).setCell (p:=⟨p.fb,_,none⟩) (.inl rfl) _
 refine⟨H.frs (by rw[<-Dy];exact(((H.fr.set _ _).set _ _).set _ _).set _ _) g (Nat.le_refl _) (λi=>?_),g⟩;by_cases e:i=k
 .subst e;rw[upd_same];exact hx
 .rw[aa _ _ e];exact H.bd.2 i
theorem MP.put1(H:MP w p f pl E I sc m){k j m':Nat}(hk:k<p.n)(x:FrS)(u:Value)(he:upd (frV f) (k*4+j) u=frV (upd f k x))(hm:m<=m')(hx:x.id<4294967296/\x.val<18446744073709551616/\x.pins<=m'):
  MP (w.setCell ⟨p.fb,k*4+j,none⟩ u) p (upd f k x) pl E I sc m'/\Fr (λi=>i=p.fb) w (w.setCell ⟨p.fb,k*4+j,none⟩ u):=by
 have g:Fr (λi=>i=p.fb) w (w.setCell ⟨p.fb,k*4+j,none⟩ u):=(Fr.refl (λi=>i=p.fb) w).setCell (p:=⟨p.fb,_,none⟩) (.inl rfl) _;refine⟨H.frs (by rw[<-he];exact H.fr.set _ _) g hm (λi=>?_),g⟩;by_cases e:i=k
 .subst e;rw[upd_same];exact hx
 .rw[aa _ _ e];have:=H.bd.2 i;exact⟨this.1,this.2.1,by omega⟩
theorem i4(H:MP w p f pl E I sc m)(hm:m<900000){k:Nat}(hk:k<p.n)(hE:E k=false):Calls prog 86 #[p.ptr,.int .i64 k] w λe w'=>e=.returned (.tuple #[])/\
  MP w' p (upd f k zF) (bN pl (f k).id (some (-1))) (ap E k true) (ap I k false) sc (m+1)/\Fr p.own w w':=by
 have c2:w.cell? ⟨p.pb,2,none⟩=some (.slice (some ⟨p.fb,0,none⟩) p.n p.n):=H.ce 2 (by omega);have c3:w.cell? ⟨p.pb,3,none⟩=some (.map (some p.mb)):=H.ce 3 (by omega);obtain⟨cf,_,_,_⟩:=H.cf hk;have hb:=(H.bd.2 k).1;have lb:=H.hd.lt;have lf:=H.fr.lt;have hn:=H.hn;obtain⟨w1,r1,h1,g0⟩:=(H.fr0 ((Fr.refl NoF w).drew)).put hm hb (-1);have g1:Fr (λi=>i=p.mb) w w1:=((Fr.refl NoF w).drew.mono (λ_ q=>q.elim)).trans g0 (λi q=>.inl q);have d2:w1.cell? ⟨p.pb,2,none⟩=some (.slice (some ⟨p.fb,0,none⟩) p.n p.n):=h1.ce 2 (by omega);have lb1:=h1.hd.lt;have lf1:=h1.fr.lt;obtain⟨e0,e1,e2,e3⟩:=h1.cf hk;have z0:=h1.fr.frozen (k*4);have z1:=h1.fr.frozen (k*4+1);have z2:=h1.fr.frozen (k*4+2);have z3:=h1.fr.frozen (k*4+3)
 have KP:Hid (∀w2,w2=(((w1.setCell ⟨p.fb,k*4,none⟩ (.int .u32 (zF.id:Nat))).setCell ⟨p.fb,k*4+1,none⟩ (.int .u64 (zF.val:Nat))).setCell ⟨p.fb,k*4+2,none⟩ (.int .i64 (zF.pins:Nat))).setCell ⟨p.fb,k*4+3,none⟩ (.bool zF.dirty)->
  MP w2 p (upd f k zF) (bN pl (f k).id (some (-1))) E I sc (m+1)/\Fr p.own w w2):=λw2 hw=>by
   obtain⟨q1,q2⟩:=h1.put4 hk zF ⟨by decide,by decide,by show 0<=m+1;omega⟩ hw;exact⟨q1,(g1.mono (λi q=>.inr (.inr (.inl q)))).trans (q2.mono (λi q=>.inr (.inl q))) (λi q=>.inl q)⟩
 have R1:=Hd r1;have HE:=Hd hE;generalize(f k).id=id at*;generalize(f k).val=xv at*;generalize(f k).pins=xp at*;generalize(f k).dirty=xd at*;obtain⟨n,pb,db,fb,mb,rv,ev,eh,eL,iv,ih,iL⟩:=p;unfold PP.ptr
 dsimp only at*
 clear H hE h1 g0 g1 r1 hb;go_enter func86,ntmps86;have r1:=R1.out;go_wp2
 go_region
 all_goals
  clear r1
  go_wp2_with fail
  obtain⟨h2,g2⟩:=KP.out _ rfl;refine(ro h2 hk).mono ?_;rintro e w3⟨rfl,h3,g3⟩;have H3:=Hd h3;have G3:=Hd (g2.trans g3 (λi q=>.inl q));have lb3:=h3.hd.lt;clear h2 g2 h3 g3
  go_wp2_with fail
  refine(Dd H3.out hk HE.out).mono ?_;rintro e w4⟨rfl,h4,g4⟩;have H4:=Hd h4;have G4:=Hd (G3.out.trans g4 (λi q=>.inl q));clear h4 g4;go_wp2;go_returns;exact⟨rfl,H4.out,G4.out⟩
theorem Bj(H:MP w p f pl E I sc m){k:Nat}(hk:k<p.n)(hd:(f k).dirty=false):Calls prog 71 #[p.ptr,.int .i64 k] w λe w'=>e=.returned (.int .i64 0)/\w=w':=by
 have c2:w.cell? ⟨p.pb,2,none⟩=some (.slice (some ⟨p.fb,0,none⟩) p.n p.n):=H.ce 2 (by omega);obtain⟨c4,c5,c6,c7⟩:=H.cf hk;have hn:=H.hn;have lb:=H.hd.lt;have lf:=H.fr.lt;rw[hd]at c7;generalize(f k).id=xi at*;generalize(f k).val=xv at*;generalize(f k).pins=xp at*;obtain⟨n,pb,db,fb,mb,rv,ev,eh,eL,iv,ih,iL⟩:=p;unfold PP.ptr
 dsimp only at*
 clear H hd;go_enter func71,ntmps71;go_wp2;go_returns;exact⟨rfl,rfl⟩
theorem pL(H:MP w p f pl E I sc m){k:Nat}(hk:k<p.n)(hd:(f k).dirty=true){er:Nat}{R:World->Prop}(hc:∀w0,Fr NoF w w0->Calls prog 94 #[.pointer (some ⟨p.db,0,none⟩),.int .u32 (f k).id,.int .u64 (f k).val] w0 λe w'=>e=.returned (.int .i64 er)/\R w')
  {m2:Nat}(hR:∀w1,R w1->MP w1 p f pl E I sc m2):Calls prog 71 #[p.ptr,.int .i64 k] w λe w'=>e=.returned (.int .i64 er)/\∃w1,R w1/\(¬er=0->w'=w1)/\(er=0->w'=w1.setCell ⟨p.fb,k*4+3,none⟩ (.bool false)):=by
 have c0:w.cell? ⟨p.pb,0,none⟩=some (.pointer (some ⟨p.db,0,none⟩)):=H.ce 0 (by omega);have c2:w.cell? ⟨p.pb,2,none⟩=some (.slice (some ⟨p.fb,0,none⟩) p.n p.n):=H.ce 2 (by omega);obtain⟨c4,c5,c6,c7⟩:=H.cf hk;have hn:=H.hn;have lb:=H.hd.lt;have lf:=H.fr.lt;rw[hd]at c7;have HC:=Hd hc
 have KR:Hid (∀w1,R w1->w1.cell? ⟨p.fb,k*4+3,none⟩=some (.bool true)/\w1.frozen? ⟨p.fb,k*4+3,none⟩=false/\p.fb<w1.heap.size):=λw1 h1=>by
  have:=(hR w1 h1).cf hk;rw[hd]at this;exact⟨this.2.2.2,(hR w1 h1).fr.frozen _,(hR w1 h1).fr.lt⟩
 generalize(f k).id=xi at*;generalize(f k).val=xv at*;generalize(f k).pins=xp at*;obtain⟨n,pb,db,fb,mb,rv,ev,eh,eL,iv,ih,iL⟩:=p;unfold PP.ptr
 dsimp only at*
 clear H hd hc hR;go_enter func71,ntmps71
 go_wp2_with fail
 go_still_tail 12,(by kernel_rfl)
 go_wp2_with fail
 refine(HC.out _ ((Fr.refl NoF w).drew)).mono ?_;rintro e w1⟨rfl,h1⟩;obtain⟨x1,x2,x3⟩:=KR.out w1 h1;have H1:=Hd h1;clear h1;by_cases h0:er=0
 .subst h0
  go_wp2;go_returns;refine⟨rfl,w1,H1.out,?_⟩
  first|rfl|exact⟨λq=>(q rfl).elim,λ_=>rfl⟩
 .have hne:(((er:Nat):Int)==0)=false:=by simp<;>exact h0
  go_wp2;go_returns;exact⟨rfl,w1,H1.out,λ_=>rfl,λq=>(h0 q).elim⟩
end
end
section
open Go.Proofs.Tryz Go.RowKit
structure PT(τ:Type) where
 f:Nat->FrS
 pl:Nat->Option Int
 E:Nat->Bool
 I:Nat->Bool
 sc:Nat
 D:RS
 A:τ
structure PJ{τ:Type}(RR:World->τ->(Nat->Prop)->Prop)(w:World)(p:PP)(T:PT τ)(m:Nat)(FD FR:Nat->Prop):Prop where
 mp:MP w p T.f T.pl T.E T.I T.sc m
 cd:CD p.db T.D m w FD
 rr:RR w T.A FR
 s1:∀i,p.own i->¬FD i/\¬FR i
 s2:∀i,FD i->¬FR i
 t1:¬FD 0/\¬FR 0
def PI{τ:Type}(RR:World->τ->(Nat->Prop)->Prop)(p:PP)(T:PT τ)(m:Nat)(w:World)(F:Nat->Prop):Prop:=∃FD FR,PJ RR w p T m FD FR/\∀i,F i↔p.own i\/FD i\/FR i
theorem Led.refl{R:World->(Nat->Prop)->Prop}{F:Nat->Prop}{w:World}(h:R w F):Led R F w w:=⟨F,h,Fr.refl _ _,λi q=>.inl q⟩
theorem Led.trans{R':World->(Nat->Prop)->Prop}{F F1:Nat->Prop}{w w1 w2:World}(f:Fr F w w1)(hF:∀i,F1 i->F i\/w.heap.size<=i)(h:Led R' F1 w1 w2):Led R' F w w2:=by
 obtain⟨F2,h2,g,q⟩:=h;refine⟨F2,h2,f.trans g hF,λi k=>?_⟩;rcases q i k with q|q
 .exact hF i q
 .have:=f.size;exact .inr (by omega)
theorem Led.mono{R R':World->(Nat->Prop)->Prop}{F:Nat->Prop}{w w':World}(h:Led R F w w')(k:∀F',R w' F'->R' w' F'):Led R' F w w':=by
 obtain⟨F',h,f,q⟩:=h;exact⟨F',k F' h,f,q⟩
section
variable{τ:Type}{P:Adv τ}{RR:World->τ->(Nat->Prop)->Prop}{ok:Nat->τ->(Nat->Nat)->(Nat->Bool)->Prop}{p:PP}(S:aJ P RR p.pb p.rv p.n ok){w w':World}{T:PT τ}{m:Nat}{F:Nat->Prop}
theorem PI.me(H:PI RR p T m w F):MP w p T.f T.pl T.E T.I T.sc m:=by obtain⟨FD,FR,h,_⟩:=H;exact h.mp
theorem PI.own(H:PI RR p T m w F):∀i,p.own i->F i:=by obtain⟨FD,FR,h,hF⟩:=H;exact λi q=>(hF i).2 (.inl q)
theorem PI.set(H:PI RR p T m w F){f:Nat->FrS}{pl:Nat->Option Int}{E I:Nat->Bool}{sc k:Nat}(h:MP w' p f pl E I sc k)(g:Fr p.own w w')(hk:m<=k)(S:aJ P RR p.pb p.rv p.n ok):Led (PI RR p {T with f:=f,pl:=pl,E:=E,I:=I,sc:=sc} k) F w w':=by
 obtain⟨FD,FR,H,hF⟩:=H;exact⟨F,⟨FD,FR,⟨h,(H.cd.fr g (λi q k=>(H.s1 i k).1 q)).more hk,S.fr H.rr g (λi q k=>(H.s1 i k).2 q),H.s1,H.s2,H.t1⟩,hF⟩,g.mono (λi q=>(hF i).2 (.inl q)),λi q=>.inl q⟩
theorem PI.more(H:PI RR p T m w F){k:Nat}(hk:m<=k):PI RR p T k w F:=by
 obtain⟨FD,FR,H,hF⟩:=H;exact⟨FD,FR,⟨H.mp.more hk,H.cd.more hk,H.rr,H.s1,H.s2,H.t1⟩,hF⟩
include S
theorem PI.fro(H:PI RR p T m w F){G:Nat->Prop}(g:Fr G w w')(hG:∀i,F i->¬G i)(ht:¬G 0):PI RR p T m w' F:=by
 obtain⟨FD,FR,H,hF⟩:=H;exact⟨FD,FR,⟨H.mp.fro g (λi q=>hG i ((hF i).2 (.inl q))) ht,H.cd.fr g (λi q=>hG i ((hF i).2 (.inr (.inl q)))),S.fr H.rr g (λi q=>hG i ((hF i).2 (.inr (.inr q)))),H.s1,H.s2,H.t1⟩,hF⟩
theorem PI.fr0(H:PI RR p T m w F)(g:Fr NoF w w'):PI RR p T m w' F:=H.fro S g (λ_ _ q=>q) id
theorem PI.lt(H:PI RR p T m w F):∀i,F i->i<w.heap.size:=by
 obtain⟨FD,FR,H,hF⟩:=H;intro i q;rcases(hF i).1 q with q|q|q
 .exact H.mp.lt i q
 .exact H.cd.lt i q
 .exact S.lt H.rr i q
theorem PI.disk(H:PI RR p T m w F){g:FuncId}{args:Array Value}{Q:Ending->World->Prop}{D':RS}{k:Nat}(hk:m<=k)(hc:∀FD,CD p.db T.D m w FD->Calls prog g args w λe w'=>Q e w'/\Led (CD p.db D' k) FD w w'):
  Calls prog g args w λe w'=>Q e w'/\Led (PI RR p {T with D:=D'} k) F w w':=by
 obtain⟨FD,FR,H,hF⟩:=H;refine(hc FD H.cd).mono ?_;rintro e w'⟨he,FD',hd,f,hq⟩;refine⟨he,λi=>p.own i\/FD' i\/FR i,⟨FD',FR,⟨(H.mp.fro f (λi q=>(H.s1 i q).1) H.t1.1).more hk,hd,S.fr H.rr f (λi q k=>H.s2 i k q),λi q=>⟨λk=>?_,(H.s1 i q).2⟩,λi q k=>?_,λq=>?_,H.t1.2⟩,λi=>Iff.rfl⟩,f.mono (λi q=>(hF i).2 (.inr (.inl q))),?_⟩
 .rcases hq i k with k|k
  .exact(H.s1 i q).1 k
  .have:=H.mp.lt i q;omega
 .rcases hq i q with q|q
  .exact H.s2 i q k
  .have:=S.lt H.rr i k;omega
 .rcases hq _ q with q|q
  .exact H.t1.1 q
  .have:=H.mp.tab.lt;omega
 .rintro i(q|q|q)
  .exact .inl ((hF i).2 (.inl q))
  .exact(hq i q).imp (λq=>(hF i).2 (.inr (.inl q))) id
  .exact .inl ((hF i).2 (.inr (.inr q)))
theorem PI.told(H:PI RR p T m w F){g:FuncId}{args:Array Value}{Q:Ending->World->Prop}{s':τ}(hc:∀FR,RR w T.A FR->(∀i,FR i->F i)->¬FR p.pb->Calls prog g args w λe w'=>Q e w'/\Tld RR s' FR w w'):
  Calls prog g args w λe w'=>Q e w'/\Led (PI RR p {T with A:=s'} m) F w w':=by
 obtain⟨FD,FR,H,hF⟩:=H;refine(hc FR H.rr (λi q=>(hF i).2 (.inr (.inr q))) (H.s1 _ (.inl rfl)).2).mono ?_;rintro e w'⟨he,FR',hd,f,hq⟩;refine⟨he,λi=>p.own i\/FD i\/FR' i,⟨FD,FR',⟨H.mp.fro f (λi q=>(H.s1 i q).2) H.t1.2,H.cd.fr f (λi q=>H.s2 i q),hd,λi q=>⟨(H.s1 i q).1,λk=>?_⟩,λi q k=>?_,H.t1.1,λq=>?_⟩,λi=>Iff.rfl⟩,f.mono (λi q=>(hF i).2 (.inr (.inr q))),?_⟩
 .rcases hq i k with k|k
  .exact(H.s1 i q).2 k
  .have:=H.mp.lt i q;omega
 .rcases hq i k with k|k
  .exact H.s2 i q k
  .have:=H.cd.lt i q;omega
 .rcases hq _ q with q|q
  .exact H.t1.2 q
  .have:=H.mp.tab.lt;omega
 .rintro i(q|q|q)
  .exact .inl ((hF i).2 (.inl q))
  .exact .inl ((hF i).2 (.inr (.inl q)))
  .exact(hq i q).imp (λq=>(hF i).2 (.inr (.inr q))) id
theorem PI.tell1(H:PI RR p T m w F){g:FuncId}{c1:Value}{s':τ}(ho:Own g)(hc:∀FR,RR w T.A FR->(∀i,FR i->F i)->Calls prog g #[p.rv,c1] w λe w'=>e=.returned (.tuple #[])/\Tld RR s' FR w w'):
  Calls prog 69 #[p.ptr,.func (.func g) #[] #[c1]] w λe w'=>e=.returned (.tuple #[])/\Led (PI RR p {T with A:=s'} m) F w w':=
 H.told S (λFR hr hF _=>Bw ho (H.me.ce 1 (by omega)) H.me.hd.lt (hc FR hr hF))
theorem PI.tell2(H:PI RR p T m w F){g:FuncId}{c1 c2:Value}{s':τ}(ho:Own g)(hc:∀FR,RR w T.A FR->(∀i,FR i->F i)->Calls prog g #[p.rv,c1,c2] w λe w'=>e=.returned (.tuple #[])/\Tld RR s' FR w w'):
  Calls prog 69 #[p.ptr,.func (.func g) #[] #[c1,c2]] w λe w'=>e=.returned (.tuple #[])/\Led (PI RR p {T with A:=s'} m) F w w':=
 H.told S (λFR hr hF _=>AL ho (H.me.ce 1 (by omega)) H.me.hd.lt (hc FR hr hF))
end
theorem eN{f:FuncId}{fn:Func}{c:Code}(hf:prog.funcs[f]?=some fn)(hname:(fn.name== "runtime.NumGoroutine")=false)(hb:fn.body=some c):Own f:=λargs w=>by
 have h1:fn.name≠ "runtime.NumGoroutine" :=by simpa using hname
 simp[callFunc,hf,h1,hb]
theorem Ai:Own 81:=eN func81 (by kernel_rfl) rfl
theorem Fk:Own 84:=eN func84 (by kernel_rfl) rfl
theorem Fg:Own 85:=eN func85 (by kernel_rfl) rfl
theorem E7:Own 108:=eN func108 (by kernel_rfl) rfl
theorem ED:Own 89:=eN func89 (by kernel_rfl) rfl
theorem Fu:Own 90:=eN func90 (by kernel_rfl) rfl
theorem Fq:Own 91:=eN func91 (by kernel_rfl) rfl
theorem Fh:Own 70:=eN func70 (by kernel_rfl) rfl
theorem EQ:Own 92:=eN func92 (by kernel_rfl) rfl
end
section
open Go.Maps Go.Proofs.Tryz Go.RowKit
theorem vZ(w:World)(u:Value)(t:TypeId):Blk (w.alloc (.cells #[u] t)) w.heap.size 1 (λ_=>u):=Blk.new w #[u] t 1 (λ_=>u) _ rfl rfl (λi hi=>by
 match i,hi with
 |0,_=>rfl)
theorem ar(w:World)(o:Obj):(w.alloc o).heap.size=w.heap.size+1:=Array.size_push (xs:=w.heap) o
theorem Hl(w:World)(u1 u2:Value)(t1 t2:TypeId):((w.alloc (.cells #[u1] t1)).alloc (.cells #[u2] t2)).cell? ⟨w.heap.size,0,none⟩=some u1/\((w.alloc (.cells #[u1] t1)).alloc (.cells #[u2] t2)).cell? ⟨w.heap.size+1,0,none⟩=some u2/\((w.alloc (.cells #[u1] t1)).alloc (.cells #[u2] t2)).heap.size=w.heap.size+2/\Fr NoF w ((w.alloc (.cells #[u1] t1)).alloc (.cells #[u2] t2)):=by
 have h1:=(vZ w u1 t1).alloc (.cells #[u2] t2);have h2:=vZ (w.alloc (.cells #[u1] t1)) u2 t2;have hs:=ar w (.cells #[u1] t1);rw[hs]at h2;exact⟨h1.cell (by omega),h2.cell (by omega),by rw[ar,ar],((Fr.refl NoF w).alloc _).alloc _⟩
theorem oT(w:World)(u1:Value)(t1:TypeId):(w.alloc (.cells #[u1] t1)).cell? ⟨w.heap.size,0,none⟩=some u1/\(w.alloc (.cells #[u1] t1)).heap.size=w.heap.size+1/\Fr NoF w (w.alloc (.cells #[u1] t1)):=
 ⟨(vZ w u1 t1).cell (by omega),ar _ _,(Fr.refl NoF w).alloc _⟩
section
variable{τ:Type}{P:Adv τ}{RR:World->τ->(Nat->Prop)->Prop}{ok:Nat->τ->(Nat->Nat)->(Nat->Bool)->Prop}{p:PP}(S:aJ P RR p.pb p.rv p.n ok){w w':World}{T:PT τ}{m:Nat}{F:Nat->Prop}
include S
theorem pk(H:PI RR p T m w F)(hm:m<80000){k:Nat}(hk:k<p.n)(hE:T.E k=false){pg:Nat->Nat}{ev:Nat->Bool}(ho:ok m T.A pg ev)(h0:¬pg k=0):Calls prog 67 #[p.ptr,.int .i64 k] w λe w'=>e=.returned (.tuple #[])/\
  Led (PI RR p {T with f:=upd T.f k zF,pl:=bN T.pl (T.f k).id (some (-1)),E:=ap T.E k true,I:=ap T.I k false,A:=P.remove T.A k} (m+1)) F w w':=by
 obtain⟨b1,b2,b3⟩:=oT w (.int .i64 k) 3;have H1:=H.fr0 S b3;have lb:=H1.me.hd.lt;have hlt:=H.lt S;have KV:=Hd (i4 H1.me (by omega) hk hE)
 have KT:Hid (∀w3 F3,PI RR p {T with f:=upd T.f k zF,pl:=bN T.pl (T.f k).id (some (-1)),E:=ap T.E k true,I:=ap T.I k false} (m+1) w3 F3->w3.cell? ⟨w.heap.size,0,none⟩=some (.int .i64 k)->w.heap.size<w3.heap.size->¬F3 w.heap.size->
  Calls prog 69 #[p.ptr,.func (.func 92) #[] #[.pointer (some ⟨w.heap.size,0,none⟩)]] w3 λe w'=>e=.returned (.tuple #[])/\Led (PI RR p {T with f:=upd T.f k zF,pl:=bN T.pl (T.f k).id (some (-1)),E:=ap T.E k true,I:=ap T.I k false,A:=P.remove T.A k} (m+1)) F3 w3 w'):=
  λw3 F3 h3 q1 q2 q3=>h3.tell1 S EQ (λFR hr hF=>S.rem hr (S.more ho (Nat.le_succ m)) (by omega) hk h0 q1 q2 (λq=>q3 (hF _ q)) (.inr rfl))
 have KS:Hid (∀w2,MP w2 p (upd T.f k zF) (bN T.pl (T.f k).id (some (-1))) (ap T.E k true) (ap T.I k false) T.sc (m+1)->Fr p.own (w.alloc (.cells #[.int .i64 k] 3)) w2->Led (PI RR p {T with f:=upd T.f k zF,pl:=bN T.pl (T.f k).id (some (-1)),E:=ap T.E k true,I:=ap T.I k false} (m+1)) F (w.alloc (.cells #[.int .i64 k] 3)) w2):=
  λw2 h g=>H1.set h g (by omega) S
 have hno:¬p.own w.heap.size:=λq=>by have:=hlt _ (H.own _ q);omega
 have hnF:¬F w.heap.size:=λq=>by have:=hlt _ q;omega
 generalize p.n=n at*;unfold PP.ptr at*;clear H H1 ho;have B1:=Hd b1;have HB3:=Hd b3;clear b3 hlt;go_enter func67,ntmps67
 go_wp2_with fail
 refine KV.out.mono ?_;rintro e w2⟨rfl,h2,g2⟩;obtain⟨F2,h3,g3,q3⟩:=KS.out w2 h2 g2;have hs2:=g3.size;have x1:w2.cell? ⟨w.heap.size,0,none⟩=some (.int .i64 k):=by rw[g3.cell (p:=⟨w.heap.size,0,none⟩) (by show w.heap.size<_;omega) hnF];exact B1.out
 have KC:=Hd (KT.out w2 F2 h3 x1 (by omega) (λq=>(q3 _ q).elim hnF (λq=>by omega)));have G3:=Hd g3;have Q3:=Hd q3;clear h2 g2 h3 g3 q3 x1
 go_wp2_with fail
 refine KC.out.mono ?_;rintro e w3⟨rfl,h4⟩;have H4:=Hd h4;clear h4;go_wp2;go_returns;exact⟨rfl,Led.trans (HB3.out.mono (λ_ q=>q.elim)) (λi q=>.inl q) (Led.trans G3.out Q3.out H4.out)⟩
theorem jF(H:PI RR p T m w F)(hm:m<80000){k id:Nat}(hk:k<p.n)(h1:1<=id)(hu:id<4294967296){pg:Nat->Nat}{ev:Nat->Bool}(ho:ok m T.A pg ev)(h0:pg k=0)(hno:∀i,i<p.n->¬pg i=id)(hm1:1<=m):Calls prog 64 #[p.ptr,.int .i64 k,.int .u32 id] w λe w'=>e=.returned (.tuple #[])/\
  Led (PI RR p {T with f:=upd T.f k ⟨id,0,1,false⟩,pl:=bN T.pl id (some k),E:=ap T.E k false,A:=P.access T.A k id} (m+1)) F w w':=by
 obtain⟨b1,b2,b3,b4⟩:=Hl w (.int .i64 k) (.int .u32 id) 3 34;have H1:=H.fr0 S b4;have lb:=H1.me.hd.lt;have lf:=H1.me.fr.lt;have hlt:=H.lt S;have c2:((w.alloc (.cells #[.int .i64 k] 3)).alloc (.cells #[.int .u32 id] 34)).cell? ⟨p.pb,2,none⟩=some (.slice (some ⟨p.fb,0,none⟩) p.n p.n):=H1.me.ce 2 (by omega);have hn:=H.me.hn;obtain⟨e0,e1,e2,e3⟩:=H1.me.cf hk;have z0:=H1.me.fr.frozen (k*4);have z1:=H1.me.fr.frozen (k*4+1);have z2:=H1.me.fr.frozen (k*4+2);have z3:=H1.me.fr.frozen (k*4+3);have hnF1:¬F w.heap.size:=λq=>by have:=hlt _ q;omega
 have hnF2:¬F (w.heap.size+1):=λq=>by have:=hlt _ q;omega
 have HF:=Hd H1;have HU:=Hd hu;generalize(T.f k).id=xi at*;generalize(T.f k).val=xv at*;generalize(T.f k).pins=xp at*;generalize(T.f k).dirty=xd at*;have B4:=Hd b4
 have KA:Hid (∀wA,wA=(((((((w.alloc (.cells #[.int .i64 k] 3)).alloc (.cells #[.int .u32 id] 34)).setCell ⟨p.fb,k*4,none⟩ (.int .u32 id)).setCell ⟨p.fb,k*4+1,none⟩ (.int .u64 0)).setCell ⟨p.fb,k*4+2,none⟩ (.int .i64 1)).setCell ⟨p.fb,k*4+3,none⟩ (.bool false)).drew)->
   MP wA p (upd T.f k ⟨id,0,1,false⟩) T.pl T.E T.I T.sc m/\Fr p.own ((w.alloc (.cells #[.int .i64 k] 3)).alloc (.cells #[.int .u32 id] 34)) wA):=λwA hA=>by
  obtain⟨q1,q2⟩:=H1.me.put4 hk ⟨id,0,1,false⟩ ⟨hu,by show 0<_;omega,hm1⟩ rfl;subst hA;exact⟨q1.fr0 ((Fr.refl NoF _).drew),(q2.drew).mono (λi q=>.inr (.inl q))⟩
 have KT:Hid (∀w3 F3,PI RR p {T with f:=upd T.f k ⟨id,0,1,false⟩,pl:=bN T.pl id (some k),E:=ap T.E k false} (m+1) w3 F3->w3.cell? ⟨w.heap.size,0,none⟩=some (.int .i64 k)->w3.cell? ⟨w.heap.size+1,0,none⟩=some (.int .u32 id)->w.heap.size+1<w3.heap.size->¬F3 w.heap.size->¬F3 (w.heap.size+1)->
  Calls prog 69 #[p.ptr,.func (.func 89) #[] #[.pointer (some ⟨w.heap.size,0,none⟩),.pointer (some ⟨w.heap.size+1,0,none⟩)]] w3 λe w'=>e=.returned (.tuple #[])/\Led (PI RR p {T with f:=upd T.f k ⟨id,0,1,false⟩,pl:=bN T.pl id (some k),E:=ap T.E k false,A:=P.access T.A k id} (m+1)) F3 w3 w'):=
  λw3 F3 h3 q1 q2 q3 q4 q5=>h3.tell2 S ED (λFR hr hF=>S.acc hr (S.more ho (Nat.le_succ m)) (by omega) h1 hu hk (.inr ⟨h0,hno⟩) q1 q2 (by omega) q3 (λq=>q4 (hF _ q)) (λq=>q5 (hF _ q)) (.inr (.inl rfl)))
 have KS:Hid (∀w3,MP w3 p (upd T.f k ⟨id,0,1,false⟩) (bN T.pl id (some k)) (ap T.E k false) T.I T.sc (m+1)->Fr p.own ((w.alloc (.cells #[.int .i64 k] 3)).alloc (.cells #[.int .u32 id] 34)) w3->Led (PI RR p {T with f:=upd T.f k ⟨id,0,1,false⟩,pl:=bN T.pl id (some k),E:=ap T.E k false} (m+1)) F ((w.alloc (.cells #[.int .i64 k] 3)).alloc (.cells #[.int .u32 id] 34)) w3):=
  λw3 h g=>H1.set h g (by omega) S
 have hno1:¬p.own w.heap.size:=λq=>hnF1 (H.own _ q)
 have hno2:¬p.own (w.heap.size+1):=λq=>hnF2 (H.own _ q)
 generalize hw2:((w.alloc (.cells #[.int .i64 k] 3)).alloc (.cells #[.int .u32 id] 34))=w2 at*;have hbn:w.heap.size+1<w2.heap.size:=by omega
 unfold PP.ptr at*;clear H H1 ho hlt b4 hu S HF hno h0 b3;go_enter func64,ntmps64
 go_wp2_with fail
 try rw[hw2]
 clear hw2
 go_region
 all_goals
  go_wp2_with fail
  obtain⟨mA,gA⟩:=KA.out _ rfl;generalize((((w2.setCell ⟨p.fb,k*4,none⟩ (.int .u32 id)).setCell ⟨p.fb,k*4+1,none⟩ (.int .u64 0)).setCell ⟨p.fb,k*4+2,none⟩ (.int .i64 1)).setCell ⟨p.fb,k*4+3,none⟩ (.bool false)).drew=wA at mA gA⊢;clear KA;obtain⟨wB,rB,hB,gB⟩:=(mA.fr0 ((Fr.refl NoF wA).drew)).put (by omega) HU.out (k:Int);have x3:wA.cell? ⟨p.pb,3,none⟩=some (.map (some p.mb)):=mA.ce 3 (by omega);have xl:=mA.hd.lt;have y1:wA.cell? ⟨w.heap.size,0,none⟩=some (.int .i64 k):=by rw[gA.cell (p:=⟨w.heap.size,0,none⟩) (by show w.heap.size<_;omega) hno1];exact b1
  have y2:wA.cell? ⟨w.heap.size+1,0,none⟩=some (.int .u32 id):=by rw[gA.cell (p:=⟨w.heap.size+1,0,none⟩) (by show w.heap.size+1<_;omega) hno2];exact b2
  have gAB:Fr p.own w2 wB:=gA.trans (((Fr.refl NoF wA).drew.mono (λ_ q=>q.elim)).trans (gB.mono (λi q=>.inr (.inr (.inl q)))) (λi q=>.inl q)) (λi q=>.inl q);clear mA gA gB c2 e0 e1 e2 e3 z0 z1 z2 z3 lb lf
  go_region
  all_goals
   clear rB x3 xl y1 y2
   go_wp2_with fail
   have lb:=hB.hd.lt;have y1:wB.cell? ⟨w.heap.size,0,none⟩=some (.int .i64 k):=by rw[gAB.cell (p:=⟨w.heap.size,0,none⟩) (by show w.heap.size<_;omega) hno1];exact b1
   have HB:=Hd hB;have GB:=Hd gAB;clear hB gAB
   go_still_tail 4,(by kernel_rfl)
   go_wp2_with fail
   refine(AY (HB.out.fr0 ((Fr.refl NoF wB).drew)) hk).mono ?_;rintro e wC⟨rfl,hC,gC⟩;have gAC:Fr p.own w2 wC:=GB.out.trans (((Fr.refl NoF wB).drew.mono (λ_ q=>q.elim)).trans gC (λi q=>.inl q)) (λi q=>.inl q);obtain⟨F3,h3,g3,q3⟩:=KS.out wC hC gAC;have z1:wC.cell? ⟨w.heap.size,0,none⟩=some (.int .i64 k):=by rw[gAC.cell (p:=⟨w.heap.size,0,none⟩) (by show w.heap.size<_;omega) hno1];exact b1
   have z2:wC.cell? ⟨w.heap.size+1,0,none⟩=some (.int .u32 id):=by rw[gAC.cell (p:=⟨w.heap.size+1,0,none⟩) (by show w.heap.size+1<_;omega) hno2];exact b2
   have hs2:=gAC.size;have KC:=Hd (KT.out wC F3 h3 z1 z2 (by omega) (λq=>(q3 _ q).elim hnF1 (λq=>by omega)) (λq=>(q3 _ q).elim hnF2 (λq=>by omega)));have G3:=Hd g3;have Q3:=Hd q3;clear hC gC gAC h3 g3 q3 z1 z2 KT KS HB GB y1
   go_wp2_with fail
   refine KC.out.mono ?_;rintro e w3⟨rfl,h4⟩;have H4:=Hd h4;clear h4;go_wp2;go_returns;exact⟨rfl,Led.trans (B4.out.mono (λ_ q=>q.elim)) (λi q=>.inl q) (Led.trans G3.out Q3.out H4.out)⟩
end
section
variable{τ:Type}{P:Adv τ}{RR:World->τ->(Nat->Prop)->Prop}{ok:Nat->τ->(Nat->Nat)->(Nat->Bool)->Prop}{p:PP}(S:aJ P RR p.pb p.rv p.n ok){w w':World}{T:PT τ}{m:Nat}{F:Nat->Prop}
include S
theorem mW(H:PI RR p T m w F)(hm:m<80000){k:Nat}(hk:k<p.n)(h1:1<=(T.f k).id){pg:Nat->Nat}{ev:Nat->Bool}(ho:ok m T.A pg ev)(h0:pg k=(T.f k).id){TF:PT τ}
  (hTF:((T.f k).pins=0/\TF={T with f:=upd T.f k {T.f k with pins:=(T.f k).pins+1},I:=ap T.I k false,A:=P.set (P.access T.A k (T.f k).id) k false})\/(¬(T.f k).pins=0/\TF={T with f:=upd T.f k {T.f k with pins:=(T.f k).pins+1},A:=P.access T.A k (T.f k).id})):Calls prog 66 #[p.ptr,.int .i64 k] w λe w'=>e=.returned (.tuple #[])/\
  Led (PI RR p TF (m+2)) F w w':=by
 obtain⟨b1,b3,b4⟩:=oT w (.int .i64 k) 3;have H1:=H.fr0 S b4;have lb:=H1.me.hd.lt;have lf:=H1.me.fr.lt;have hlt:=H.lt S;have c2:(w.alloc (.cells #[.int .i64 k] 3)).cell? ⟨p.pb,2,none⟩=some (.slice (some ⟨p.fb,0,none⟩) p.n p.n):=H1.me.ce 2 (by omega);have hn:=H.me.hn;obtain⟨e0,e1,e2,e3⟩:=H1.me.cf hk;have hu:=(H.me.bd.2 k).1;have hbf:=H.me.bd.2 k;have hnF1:¬F w.heap.size:=λq=>by have:=hlt _ q;omega
 have hnF2:¬F (w.heap.size+1):=λq=>by have:=hlt _ q;omega
 have okA:=S.okOld ho (by omega) h1 hk h0;have hpg:¬pg k=0:=by omega
 have KT1:Hid (∀w3,Fr NoF w w3->w3.cell? ⟨w.heap.size,0,none⟩=some (.int .i64 k)->w3.cell? ⟨w.heap.size+1,0,none⟩=some (.int .u32 (T.f k).id)->w.heap.size+1<w3.heap.size->
  Calls prog 69 #[p.ptr,.func (.func 90) #[] #[.pointer (some ⟨w.heap.size,0,none⟩),.pointer (some ⟨w.heap.size+1,0,none⟩)]] w3 λe w'=>e=.returned (.tuple #[])/\Led (PI RR p {T with A:=P.access T.A k (T.f k).id} m) F w3 w'):=
  λw3 g q1 q2 q3=>(H.fr0 S g).tell2 S Fu (λFR hr hF=>S.acc hr ho (by omega) h1 hu hk (.inl h0) q1 q2 (by omega) q3 (λq=>hnF1 (hF _ q)) (λq=>hnF2 (hF _ q)) (.inr (.inr rfl)))
 have KP:Hid (∀w3 F3 z A I,PI RR p {T with I:=I,A:=A} m w3 F3->z=(((T.f k).pins+1:Nat):Int)->Led (PI RR p {T with f:=upd T.f k {T.f k with pins:=(T.f k).pins+1},I:=I,A:=A} (m+2)) F3 w3 (w3.setCell ⟨p.fb,k*4+2,none⟩ (.int .i64 z)).drew):=λw3 F3 z A I h3 hz=>by
  subst hz;obtain⟨q1,q2⟩:=h3.me.put1 (m':=m+2) (j:=2) hk {T.f k with pins:=(T.f k).pins+1} (.int .i64 (((T.f k).pins+1:Nat):Int)) (qi T.f k _) (by omega) ⟨hbf.1,hbf.2.1,by show(T.f k).pins+1<=m+2;omega⟩;exact h3.set (q1.fr0 ((Fr.refl NoF _).drew)) ((q2.drew).mono (λi q=>.inr (.inl q))) (by omega) S
 have KD:Hid (∀w3 F3,PI RR p {T with A:=P.access T.A k (T.f k).id} m w3 F3->Calls prog 88 #[.pointer (some ⟨p.pb,7,none⟩),.int .i64 k] w3 λe w'=>e=.returned (.tuple #[])/\Led (PI RR p {T with I:=ap T.I k false,A:=P.access T.A k (T.f k).id} m) F3 w3 w'):=λw3 F3 h3=>by
  refine(ro h3.me hk).mono ?_;rintro e w4⟨he,h4,g4⟩;exact⟨he,h3.set h4 g4 (Nat.le_refl _) S⟩
 have KT2:Hid (∀w3 F3,PI RR p {T with I:=ap T.I k false,A:=P.access T.A k (T.f k).id} m w3 F3->w3.cell? ⟨w.heap.size,0,none⟩=some (.int .i64 k)->w.heap.size<w3.heap.size->¬F3 w.heap.size->
  Calls prog 69 #[p.ptr,.func (.func 91) #[] #[.pointer (some ⟨w.heap.size,0,none⟩)]] w3 λe w'=>e=.returned (.tuple #[])/\Led (PI RR p {T with I:=ap T.I k false,A:=P.set (P.access T.A k (T.f k).id) k false} m) F3 w3 w'):=
  λw3 F3 h3 q1 q2 q3=>h3.tell1 S Fq (λFR hr hF=>S.setF hr okA (by omega) hk hpg q1 q2 (λq=>q3 (hF _ q)))
 have KX:Hid (∀w3 F3 (A:τ) (I:Nat->Bool),PI RR p {T with I:=I,A:=A} m w3 F3->w3.cell? ⟨p.pb,2,none⟩=some (.slice (some ⟨p.fb,0,none⟩) p.n p.n)/\w3.cell? ⟨p.fb,k*4+2,none⟩=some (.int .i64 (T.f k).pins)/\w3.frozen? ⟨p.fb,k*4+2,none⟩=false/\p.pb<w3.heap.size/\p.fb<w3.heap.size):=
  λw3 F3 A I h3=>⟨h3.me.ce 2 (by omega),(h3.me.cf hk).2.2.1,h3.me.fr.frozen _,h3.me.hd.lt,h3.me.fr.lt⟩
 have HS:Hid (∀(A:τ) (I:Nat->Bool) w3 F3,PI RR p {T with I:=I,A:=A} m w3 F3->PI RR p {T with I:=I,A:=A} m w3.drew F3):=λA I w3 F3 h3=>h3.fr0 S ((Fr.refl NoF _).drew)
 have hxpm:(T.f k).pins<900000:=by have:=hbf.2.2;omega
 have HTF:=Hd hTF;clear hTF;generalize hxi:(T.f k).id=xi at*;generalize hxv:(T.f k).val=xv at*;generalize hxp:(T.f k).pins=xp at*;generalize hxd:(T.f k).dirty=xd at*;have B4:=Hd b4;generalize hw2:(w.alloc (.cells #[.int .i64 k] 3))=w2 at*;unfold PP.ptr at*;clear H H1 ho hlt b4 h0 okA S hbf hxi hxv hxp hxd hu;go_enter func66,ntmps66
 go_wp2_with fail
 try rw[hw2]
 clear hw2;have fN:Fr NoF w2 (w2.alloc (.cells #[.int .u32 0] 34)):=(Fr.refl NoF w2).alloc _;have d2:(w2.alloc (.cells #[.int .u32 0] 34)).cell? ⟨p.pb,2,none⟩=some (.slice (some ⟨p.fb,0,none⟩) p.n p.n):=by rw[fN.cell (p:=⟨p.pb,2,none⟩) lb id];exact c2
 have d0:(w2.alloc (.cells #[.int .u32 0] 34)).cell? ⟨p.fb,k*4,none⟩=some (.int .u32 xi):=by rw[fN.cell (p:=⟨p.fb,k*4,none⟩) lf id];exact e0
 have d1:(w2.alloc (.cells #[.int .u32 0] 34)).cell? ⟨w.heap.size,0,none⟩=some (.int .i64 k):=by rw[fN.cell (p:=⟨w.heap.size,0,none⟩) (by show w.heap.size<_;omega) id];exact b1
 have dl:=ar w2 (.cells #[.int .u32 0] 34);clear fN
 go_region
 all_goals
  go_wp2_with fail
  clear d0 d1 d2 dl;have fA:Fr NoF w2 (w2.alloc (.cells #[.int .u32 xi] 34)).drew:=((Fr.refl NoF w2).alloc _).drew;have gA:Fr NoF w (w2.alloc (.cells #[.int .u32 xi] 34)).drew:=B4.out.trans fA (λ_ q=>q.elim);have x1:(w2.alloc (.cells #[.int .u32 xi] 34)).drew.cell? ⟨w.heap.size,0,none⟩=some (.int .i64 k):=by rw[fA.cell (p:=⟨w.heap.size,0,none⟩) (by show w.heap.size<_;omega) id];exact b1
  have x2:(w2.alloc (.cells #[.int .u32 xi] 34)).drew.cell? ⟨w.heap.size+1,0,none⟩=some (.int .u32 xi):=by
   have:=((vZ w2 (.int .u32 xi) 34).drew).cell (i:=0) (by omega);rw[b3]at this;exact this
  have x3:(w2.alloc (.cells #[.int .u32 xi] 34)).drew.heap.size=w2.heap.size+1:=ar w2 _;generalize(w2.alloc (.cells #[.int .u32 xi] 34)).drew=wA at fA gA x1 x2 x3⊢;have KC:=Hd (KT1.out wA gA x1 x2 (by omega));have GA:=Hd gA;clear KT1 fA gA x2;refine KC.out.mono ?_;clear KC;rintro e w3⟨rfl,F3,h3,g3,q3⟩;obtain⟨y1,y2,y3,y4,y5⟩:=KX.out w3 F3 _ _ h3;have y6:w3.cell? ⟨w.heap.size,0,none⟩=some (.int .i64 k):=by rw[g3.cell (p:=⟨w.heap.size,0,none⟩) (by show w.heap.size<_;omega) hnF1];exact x1
  have y7:=g3.size;have H3:=Hd h3;have G3:=Hd g3;have Q3:=Hd q3;have n3:¬F3 w.heap.size:=λq=>(q3 _ q).elim hnF1 (λq=>by omega)
  clear h3 g3 q3 x1 c2 e0 e1 e2 e3 lb lf
  go_wp2_with fail
  rcases HTF.out with⟨hp,rfl⟩|⟨hp,rfl⟩
  .have hpI:(xp:Int)=0:=by omega
   clear hp HTF;rw[hpI]at y2
   go_region
   all_goals
    go_wp2_with fail
    have y6d:w3.drew.cell? ⟨w.heap.size,0,none⟩=some (.int .i64 k):=y6;have y4d:p.pb<w3.drew.heap.size:=y4;have y7d:w2.heap.size+1<=w3.drew.heap.size:=by have:w3.drew.heap.size=w3.heap.size:=rfl;omega
    have H3d:=Hd (HS.out _ _ _ _ H3.out);have fD:Fr F3 w3 w3.drew:=(Fr.refl _ w3).drew;have FD:=Hd fD;generalize w3.drew=w3d at y6d y4d y7d H3d FD⊢;clear fD y1 y2 y3 y4 y5 y6
    go_still_tail 4,(by kernel_rfl)
    go_wp2_with fail
    refine(KD.out _ F3 (HS.out _ _ _ _ H3d.out)).mono ?_;rintro e w4⟨rfl,F4,h4,g4,q4⟩;obtain⟨z1,z2,z3,z4,z5⟩:=KX.out w4 F4 _ _ h4;have z6:w4.cell? ⟨w.heap.size,0,none⟩=some (.int .i64 k):=by rw[g4.cell (p:=⟨w.heap.size,0,none⟩) (by show w.heap.size<w3d.heap.size;omega) n3];exact y6d
    have z7:=g4.size;have z8:w.heap.size<w4.heap.size:=Nat.lt_of_lt_of_le (by show w.heap.size<w3d.heap.size;omega) z7;have H4:=Hd h4;have G4:=Hd g4;have Q4:=Hd q4;have n4:¬F4 w.heap.size:=λq=>(q4 _ q).elim n3 (λq=>by have:w3d.heap.size<=w.heap.size:=q;omega)
    clear h4 g4 q4
    go_wp2_with fail
    refine(KT2.out w4 F4 H4.out z6 z8 n4).mono ?_;rintro e w5⟨rfl,F5,h5,g5,q5⟩;obtain⟨u1,u2,u3,u4,u5⟩:=KX.out w5 F5 _ _ h5;have u6:w5.cell? ⟨w.heap.size,0,none⟩=some (.int .i64 k):=by rw[g5.cell (p:=⟨w.heap.size,0,none⟩) z8 n4];exact z6
    have H5:=Hd h5;have G5:=Hd g5;have Q5:=Hd q5;clear h5 g5 q5 z1 z2 z3 z4 z5 z6;have hcw:IntKind.i64.wrap ((xp:Int)+1)=(xp:Int)+1:=IntWalk.i64_in _ (by omega)
    go_wp2_with fail
    go_region
    all_goals
     go_wp2;go_returns;refine⟨rfl,Led.trans (GA.out.mono (λ_ q=>q.elim)) (λi q=>.inl q) (Led.trans G3.out Q3.out (Led.trans (FD.out.trans (((Fr.refl _ w3d).drew).trans G4.out (λi q=>.inl q)) (λi q=>.inl q)) (λi q=>(Q4.out i q).imp id (λq=>by have:w3d.heap.size<=i:=q;have:=FD.out.size;omega)) (Led.trans G5.out Q5.out (KP.out w5 F5 _ _ _ H5.out ?_))))⟩
     first|rfl|omega|simp
  .have hpI:((xp:Int)==0)=false:=by simp<;>exact hp
   clear hp HTF
   go_region
   all_goals
    go_wp2_with fail
    have hcw:IntKind.i64.wrap ((xp:Int)+1)=(xp:Int)+1:=IntWalk.i64_in _ (by omega);have H3d:=Hd (HS.out _ _ _ _ H3.out);have FD:Hid (Fr F3 w3 w3.drew):=(Fr.refl _ w3).drew;obtain⟨v1,v2,v3,v4,v5⟩:=KX.out w3.drew F3 _ _ H3d.out;have v6:w3.drew.cell? ⟨w.heap.size,0,none⟩=some (.int .i64 k):=y6;generalize w3.drew=w3d at v1 v2 v3 v4 v5 v6 H3d FD⊢;clear y1 y2 y3 y4 y5 y6
    go_region
    all_goals
     go_wp2;go_returns;refine⟨rfl,Led.trans (GA.out.mono (λ_ q=>q.elim)) (λi q=>.inl q) (Led.trans G3.out Q3.out (Led.trans FD.out (λi q=>.inl q) (KP.out w3d F3 _ _ _ H3d.out ?_)))⟩
     first|rfl|omega|simp
theorem tF(H:PI RR p T m w F)(hm:m<80000){k:Nat}(hk:k<p.n)(h1:1<=(T.f k).id){pg:Nat->Nat}{ev:Nat->Bool}(ho:ok m T.A pg ev)(h0:pg k=(T.f k).id)(hp:(T.f k).pins=0):Calls prog 66 #[p.ptr,.int .i64 k] w λe w'=>e=.returned (.tuple #[])/\
  Led (PI RR p {T with f:=upd T.f k {T.f k with pins:=(T.f k).pins+1},I:=ap T.I k false,A:=P.set (P.access T.A k (T.f k).id) k false} (m+2)) F w w':=mW S H hm hk h1 ho h0 (.inl ⟨hp,rfl⟩)
theorem tI(H:PI RR p T m w F)(hm:m<80000){k:Nat}(hk:k<p.n)(h1:1<=(T.f k).id){pg:Nat->Nat}{ev:Nat->Bool}(ho:ok m T.A pg ev)(h0:pg k=(T.f k).id)(hp:¬(T.f k).pins=0)(hpm:(T.f k).pins<m):Calls prog 66 #[p.ptr,.int .i64 k] w λe w'=>e=.returned (.tuple #[])/\
  Led (PI RR p {T with f:=upd T.f k {T.f k with pins:=(T.f k).pins+1},A:=P.access T.A k (T.f k).id} (m+2)) F w w':=mW S H hm hk h1 ho h0 (.inr ⟨hp,rfl⟩)
end
end
end Go.Proofs.YtoenclhimbpfeaaGreatDoor
