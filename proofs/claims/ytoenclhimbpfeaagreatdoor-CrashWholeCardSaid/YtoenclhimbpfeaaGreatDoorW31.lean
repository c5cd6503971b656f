/- Part 31. -/
import Derived.Test.YtoenclhimbpfeaaGreatDoorW27
import Derived.LaidEqlPtr
namespace Go.Proofs.YtoenclhimbpfeaaGreatDoor
set_option linter.all false
set_option maxHeartbeats 16000000
set_option maxRecDepth 100000
section
open Go.RowKit
def atP(l:List (Nat×Nat))(id:Nat):Option Nat:=l.findIdx? (λp=>p.1==id)
section
variable{w w':World}{v:Value}{l:List (Nat×Nat)}
theorem Ab{l:List (Nat×Nat)}{id:Nat}(h:∀k (hk:k<l.length),¬l[k].1=id):atP l id=none:=by
 unfold atP;rw[List.findIdx?_eq_none_iff];intro p hp;obtain⟨k,hk,rfl⟩:=List.mem_iff_getElem.1 hp;simpa using h k hk
theorem AW{l:List (Nat×Nat)}{id k:Nat}(hk:k<l.length)(h:l[k].1=id)(hn:∀j (hj:j<k),¬(l[j]'(by omega)).1=id):atP l id=some k:=by
 unfold atP;rw[List.findIdx?_eq_some_iff_getElem];exact⟨hk,by simpa using h,λj hj=>by simpa using hn j hj⟩
end
theorem Ag{l:List (Nat×Nat)}{id k:Nat}(h:atP l id=some k):∃hk:k<l.length,l[k].1=id:=by
 unfold atP at h;rw[List.findIdx?_eq_some_iff_getElem]at h;obtain⟨hk,h1,_⟩:=h;exact⟨hk,by simpa using h1⟩
def bn(l:List (Nat×Nat))(id:Nat):List (Nat×Nat)×Bool:=
 match atP l id with
 |none=>(l,false)
 |some k=>if(l.getD k (0,0)).2=0 then(l,false)else(l.set k ((l.getD k (0,0)).1,(l.getD k (0,0)).2-1),true)
structure RS where
 room:Nat
 L:List (Nat×Nat)
 nr:List (Nat×Nat)
 ns:List (Nat×Nat)
 rd:Nat
 wr:Nat
 stops:Bool
 left:Int
def FR(b:Nat)(lv nv sv:Value):Nat->Prop:=λi=>i=b\/lv.ownBlock=some i\/nv.ownBlock=some i\/sv.ownBlock=some i
def RS.stopped(s:RS):Bool:=s.stops&&decide (s.left<=0)
def RS.read(s:RS)(id:Nat):(Nat×Nat)×RS:=
 match atP s.L id with
 |none=>((0,3),s)
 |some k=>if s.stopped=true then((0,7),s)else if(bn s.nr id).2=true then((0,7),{s with nr:=(bn s.nr id).1})else(((s.L.getD k (0,0)).2,0),{s with rd:=s.rd+1,left:=s.left-1})
def RS.write(s:RS)(id v:Nat):Nat×RS:=
 match atP s.L id with
 |none=>(3,s)
 |some k=>if s.stopped=true then(7,s)else if(bn s.ns id).2=true then(7,{s with ns:=(bn s.ns id).1})else(0,{s with L:=s.L.set k ((s.L.getD k (0,0)).1,v),wr:=s.wr+1,left:=s.left-1})
def RS.free(s:RS)(id:Nat):Nat×RS:=
 match atP s.L id with
 |none=>(3,s)
 |some k=>(0,{s with L:=s.L.take k++s.L.drop (k+1)})
def RS.ins(s:RS)(k:Nat):RS:={s with L:=s.L.take k++[(k+1,0)]++s.L.drop k}
structure Gap(L:List (Nat×Nat))(k:Nat):Prop where
 le:k<=L.length
 all:∀j (hj:j<L.length),j<k->L[j].1=j+1
 not:∀hk:k<L.length,¬L[k].1=k+1
end
section
open Go.Maps Go.RowKit
def plR(pg:Nat->Bool×Nat)(a n:Nat):List (Nat×Nat):=((List.range' a n).filter λi=>(pg i).1).map λi=>(i+1,(pg i).2)
def plL(pg:Nat->Bool×Nat)(n:Nat):List (Nat×Nat):=plR pg 0 n
theorem eQ(pg:Nat->Bool×Nat)(a m n:Nat):plR pg a (m+n)=plR pg a m++plR pg (a+m) n:=by
 unfold plR;rw[<-List.range'_append_1,List.filter_append,List.map_append]
theorem cU(pg:Nat->Bool×Nat)(a:Nat):plR pg a 1=if(pg a).1=true then[(a+1,(pg a).2)]else[]:=by
 unfold plR;by_cases h:(pg a).1=true<;>simp[h]
theorem gJ{pg pg':Nat->Bool×Nat}{a n:Nat}(h:∀i,a<=i->i<a+n->pg i=pg' i):plR pg a n=plR pg' a n:=by
 induction n generalizing a with
 |zero=>rfl
 |succ n ih=>
  have e1:=eQ pg a 1 n;have e2:=eQ pg' a 1 n;rw[Nat.add_comm n 1,e1,e2,cU,cU,h a (by omega) (by omega),ih (a:=a+1) (λi h1 h2=>h i (by omega) (by omega))]
theorem ka{pg:Nat->Bool×Nat}{a n:Nat}{p:Nat×Nat}:p∈plR pg a n↔∃i,a<=i/\i<a+n/\(pg i).1=true/\p=(i+1,(pg i).2):=by
 unfold plR;simp only[List.mem_map,List.mem_filter,List.mem_range'_1];constructor
 .rintro⟨i,⟨⟨h1,h2⟩,h3⟩,rfl⟩;exact⟨i,h1,h2,h3,rfl⟩
 .rintro⟨i,h1,h2,h3,rfl⟩;exact⟨i,⟨⟨h1,h2⟩,h3⟩,rfl⟩
theorem oe(pg:Nat->Bool×Nat)(a n:Nat):(plR pg a n).length<=n:=by
 unfold plR;rw[List.length_map];exact Nat.le_trans (List.length_filter_le _ _) (by rw[List.length_range'];exact Nat.le_refl _)
theorem k8{pg:Nat->Bool×Nat}{a n:Nat}(h:∀i,a<=i->i<a+n->(pg i).1=true):(plR pg a n).length=n:=by
 unfold plR;rw[List.length_map,List.filter_eq_self.2 (λi hi=>by rw[List.mem_range'_1]at hi;exact h i hi.1 hi.2),List.length_range']
theorem dS(pg:Nat->Bool×Nat){i n:Nat}(h:i<n):plL pg n=plL pg i++(plR pg i 1++plR pg (i+1) (n-i-1)):=by
 unfold plL;have e:=eQ pg 0 i (1+(n-i-1));rw[show i+(1+(n-i-1))=n from by omega,Nat.zero_add,eQ]at e;exact e
theorem wb{pg:Nat->Bool×Nat}{i n:Nat}(h:i<n)(hf:(pg i).1=false):(plL pg n).length<n:=by
 rw[dS pg h,cU,hf];have h1:=oe pg 0 i;have h2:=oe pg (i+1) (n-i-1);unfold plL;simp only[List.length_append];simp;omega
theorem Di(pg:Nat->Bool×Nat)(n:Nat):kz pg n=(plL pg n).map (·.1):=by
 unfold kz plL plR;rw[List.map_map,List.range_eq_range'];rfl
theorem fZ{A B:List (Nat×Nat)}{id v:Nat}(h:∀p∈A,¬p.1=id):atP (A++(id,v)::B) id=some A.length:=by
 refine AW (k:=A.length) (by simp) (by simp) (λj hj=>?_);rw[List.getElem_append_left hj];exact h _ (List.getElem_mem hj)
theorem nU{L:List (Nat×Nat)}{id:Nat}(h:∀p∈L,¬p.1=id):atP L id=none:=Ab (λk hk=>h _ (List.getElem_mem hk))
theorem sW{pg:Nat->Bool×Nat}{n id:Nat}(h1:1<=id)(h2:id<=n)(h3:(pg (id-1)).1=true):plL pg n=plL pg (id-1)++(id,(pg (id-1)).2)::plR pg id (n-id)/\atP (plL pg n) id=some (plL pg (id-1)).length:=by
 have e:plL pg n=plL pg (id-1)++(id,(pg (id-1)).2)::plR pg id (n-id):=by
  rw[dS pg (i:=id-1) (by omega),cU,if_pos h3,show id-1+1=id from by omega,show n-(id-1)-1=n-id from by omega];rfl
 refine⟨e,?_⟩;rw[e];refine fZ (λp hp=>?_);unfold plL at hp;obtain⟨i,_,q,_,rfl⟩:=ka.1 hp
 show¬i+1=id
 omega
theorem yP{pg:Nat->Bool×Nat}{n id:Nat}(h:¬(1<=id/\id<=n/\(pg (id-1)).1=true)):atP (plL pg n) id=none:=by
 refine nU (λp hp q=>?_);unfold plL at hp;obtain⟨i,_,h2,h3,rfl⟩:=ka.1 hp;have q:i+1=id:=q;subst q;exact h ⟨by omega,by omega,by rw[Nat.add_sub_cancel];exact h3⟩
theorem uE{pg:Nat->Bool×Nat}{n id:Nat}(h1:1<=id)(h2:id<=n)(b:Bool)(v:Nat):plL (upd pg (id-1) (b,v)) n=plL pg (id-1)++((if b=true then[(id,v)]else[])++plR pg id (n-id)):=by
 rw[dS _ (i:=id-1) (by omega),cU,upd_same,show id-1+1=id from by omega,show n-(id-1)-1=n-id from by omega];have e1:plL (upd pg (id-1) (b,v)) (id-1)=plL pg (id-1):=gJ (λi _ q=>aa _ _ (by omega));have e2:plR (upd pg (id-1) (b,v)) id (n-id)=plR pg id (n-id):=gJ (λi q _=>aa _ _ (by omega));rw[e1,e2]
theorem vp{pg:Nat->Bool×Nat}{n id:Nat}(h1:1<=id)(h2:id<=n)(h3:(pg (id-1)).1=true)(v:Nat):(plL pg n).set (plL pg (id-1)).length (((plL pg n).getD (plL pg (id-1)).length (0,0)).1,v)=plL (upd pg (id-1) ((pg (id-1)).1,v)) n/\(plL pg n).getD (plL pg (id-1)).length (0,0)=(id,(pg (id-1)).2):=by
 have e:=(sW h1 h2 h3).1;have g:(plL pg n).getD (plL pg (id-1)).length (0,0)=(id,(pg (id-1)).2):=by rw[e];simp
 refine⟨?_,g⟩;rw[g,h3,uE h1 h2,if_pos rfl]
 conv=>lhs;rw[e]
 simp
theorem Dm{pg:Nat->Bool×Nat}{n id:Nat}(h1:1<=id)(h2:id<=n)(h3:(pg (id-1)).1=true):(plL pg n).take (plL pg (id-1)).length++(plL pg n).drop ((plL pg (id-1)).length+1)=plL (upd pg (id-1) (false,0)) n:=by
 have e:=(sW h1 h2 h3).1;rw[uE h1 h2,if_neg (by simp),e];simp
theorem ki{pg:Nat->Bool×Nat}{n k:Nat}(h:Gap (plL pg n) k):k<=n/\(∀j,j<k->(pg j).1=true)/\(k<n->(pg k).1=false)/\(plL pg n).take k++[(k+1,0)]++(plL pg n).drop k=plL (upd pg k (true,0)) (max n (k+1)):=by
 have hall:∀j,j<k->j<n/\(pg j).1=true:=by
  intro j hj;have hl:j<(plL pg n).length:=by have:=h.le;omega
  have hm:=List.getElem_mem hl;have ha:=h.all j hl hj;unfold plL at hm;obtain⟨i,_,q2,q3,q4⟩:=ka.1 hm
  have e:i=j:=by
   have:((plL pg n)[j]).1=i+1:=by unfold plL;rw[q4]
   omega
  subst e;exact⟨by omega,q3⟩
 have hkn:k<=n:=by
  rcases Nat.eq_zero_or_pos k with q|q
  .omega
  .have:=(hall (k-1) (by omega)).1;omega
 have hfull:(plL pg k).length=k:=k8 (λi _ q=>(hall i (by omega)).2)
 have esp:plL pg n=plL pg k++plR pg k (n-k):=by
  have:=eQ pg 0 k (n-k);rw[show k+(n-k)=n from by omega,Nat.zero_add]at this;exact this
 have hnot:k<n->(pg k).1=false:=by
  intro q
  cases hb:(pg k).1 with
  |false=>rfl
  |true=>
   have e2:=eQ pg k 1 (n-k-1);rw[show 1+(n-k-1)=n-k from by omega,cU,if_pos hb]at e2;have hl:k<(plL pg n).length:=by rw[esp,e2,List.length_append,hfull];simp
   have:=h.not hl;refine(this ?_).elim
   have e3:(plL pg n)[k]?=some (k+1,(pg k).2):=by
    rw[esp,e2,List.getElem?_append_right (by omega),hfull];simp
   rw[List.getElem?_eq_getElem hl]at e3;rw[Option.some.inj e3]
 refine⟨hkn,λj q=>(hall j q).2,hnot,?_⟩;have et:(plL pg n).take k=plL pg k:=by rw[esp];exact List.take_left' hfull
 have ed:(plL pg n).drop k=plR pg k (n-k):=by rw[esp];exact List.drop_left' hfull
 rw[et,ed];have ek:plL (upd pg k (true,0)) k=plL pg k:=gJ (λi _ q=>aa _ _ (by omega));by_cases q:k<n
 .rw[show max n (k+1)=n from by omega,dS _ q,cU,upd_same,if_pos rfl,ek]
  have e2:=eQ pg k 1 (n-k-1);rw[show 1+(n-k-1)=n-k from by omega,cU,if_neg (by rw[hnot q];simp)]at e2;have e4:plR (upd pg k (true,0)) (k+1) (n-k-1)=plR pg (k+1) (n-k-1):=gJ (λi q _=>aa _ _ (by omega));rw[e2,e4];simp
 .obtain rfl:k=n:=by omega
  rw[show max k (k+1)=k+1 from by omega,dS (upd pg k (true,0)) (i:=k) (n:=k+1) (by omega),cU,upd_same,if_pos rfl,ek,show k+1-k-1=0 from by omega,Nat.sub_self];simp[plR]
theorem Gap.same{L:List (Nat×Nat)}{k k':Nat}(h:Gap L k)(h':Gap L k'):k=k':=by
 rcases Nat.lt_trichotomy k k' with q|q|q
 .have hl:k<L.length:=by have:=h'.le;omega
  exact(h.not hl (h'.all k hl q)).elim
 .exact q
 .have hl:k'<L.length:=by have:=h.le;omega
  exact(h'.not hl (h.all k' hl q)).elim
def aw(l:List (Nat×Nat))(id:Nat):Nat:=match atP l id with
 |none=>0
 |some k=>(l.getD k (0,0)).2
theorem atP_of{l:List (Nat×Nat)}{id:Nat}:(atP l id=none/\∀p∈l,¬p.1=id)\/∃A v B,l=A++(id,v)::B/\(∀p∈A,¬p.1=id)/\atP l id=some A.length/\aw l id=v:=by
 induction l with
 |nil=>exact .inl ⟨rfl,λp hp=>(by cases hp)⟩
 |cons a l ih=>
  by_cases e:a.1=id
  .obtain⟨a1,a2⟩:=a
   have e:a1=id:=e;subst e;have h1:atP ((a1,a2)::l) a1=some 0:=fZ (A:=[]) (λp hp=>(by cases hp));exact .inr ⟨[],a2,l,rfl,λp hp=>(by cases hp),h1,by unfold aw;rw[h1];rfl⟩
  .rcases ih with⟨h1,h2⟩|⟨A,v,B,rfl,h2,h3,h4⟩
   .have h5:∀p∈a::l,¬p.1=id:=λp hp=>by
     rcases List.mem_cons.1 hp with rfl|q
     .exact e
     .exact h2 p q
    exact .inl ⟨nU h5,h5⟩
   .have h5:∀p∈a::A,¬p.1=id:=λp hp=>by
     rcases List.mem_cons.1 hp with rfl|q
     .exact e
     .exact h2 p q
    have h6:atP (a::(A++(id,v)::B)) id=some (a::A).length:=fZ h5;exact .inr ⟨a::A,v,B,rfl,h5,h6,by unfold aw;rw[h6];simp⟩
theorem cb{A B:List (Nat×Nat)}{id v:Nat}(h:∀p∈A,¬p.1=id):aw (A++(id,v)::B) id=v:=by
 unfold aw;rw[fZ h];simp
theorem lH{A B:List (Nat×Nat)}{id v v' x:Nat}(hx:¬x=id):aw (A++(id,v)::B) x=aw (A++(id,v')::B) x:=by
 induction A with
 |nil=>
  rcases atP_of (l:=B) (id:=x)with⟨h1,h2⟩|⟨A',u,B',rfl,h2,h3,h4⟩
  .have g:∀v,aw ([]++(id,v)::B) x=0:=λv=>by
    unfold aw
    rw[nU (λp hp=>by
     rcases List.mem_cons.1 hp with rfl|q
     .exact λq=>hx q.symm
     .exact h2 p q)]
   rw[g,g]
  .have g:∀v,aw ([]++(id,v)::(A'++(x,u)::B')) x=u:=λv=>cb (A:=(id,v)::A') (λp hp=>by
     rcases List.mem_cons.1 hp with rfl|q
     .exact λq=>hx q.symm
     .exact h2 p q)
   rw[g,g]
 |cons a A ih=>
  by_cases e:a.1=x
  .obtain⟨a1,a2⟩:=a
   have e:a1=x:=e;subst e;have g:∀l,aw ((a1,a2)::l) a1=a2:=λl=>cb (A:=[]) (λp hp=>(by cases hp))
   exact(g _).trans (g _).symm
  .have g:∀l:List (Nat×Nat),aw (a::l) x=aw l x:=λl=>by
    rcases atP_of (l:=l) (id:=x)with⟨h1,h2⟩|⟨A',u,B',rfl,h2,h3,h4⟩
    .unfold aw
     rw[h1,nU (λp hp=>by
      rcases List.mem_cons.1 hp with rfl|q
      .exact e
      .exact h2 p q)]
    .rw[h4]
     exact cb (A:=a::A') (λp hp=>by
      rcases List.mem_cons.1 hp with rfl|q
      .exact e
      .exact h2 p q)
   show aw (a::(A++(id,v)::B)) x=aw (a::(A++(id,v')::B)) x
   rw[g,g];exact ih
theorem mI(l:List (Nat×Nat))(id:Nat):(bn l id).2=decide (¬aw l id=0)/\∀x,aw (bn l id).1 x=if x=id then aw l id-1 else aw l x:=by
 rcases atP_of (l:=l) (id:=id)with⟨h1,h2⟩|⟨A,v,B,rfl,h2,h3,h4⟩
 .have hv:aw l id=0:=by unfold aw;rw[h1]
  have e:bn l id=(l,false):=by unfold bn;rw[h1]
  rw[e,hv];refine⟨by simp,λx=>?_⟩
  split
  .rename_i q;rw[q,hv]
  .rfl
 .have g:(A++(id,v)::B).getD A.length (0,0)=(id,v):=by simp
  rw[h4];by_cases hz:v=0
  .subst hz
   have e:bn (A++(id,0)::B) id=(A++(id,0)::B,false):=by unfold bn;rw[h3];simp only[g,if_true]
   rw[e];refine⟨by simp,λx=>?_⟩
   split
   .rename_i q;rw[q,h4]
   .rfl
  .have e:bn (A++(id,v)::B) id=(A++(id,v-1)::B,true):=by
    unfold bn;rw[h3];simp only[g,hz,if_false];simp
   rw[e];refine⟨by simp[hz],λx=>?_⟩
   split
   .rename_i q;rw[q];exact cb h2
   .rename_i q;exact lH q
structure bv(s:DS)(r:RS):Prop where
 room:r.room=s.room
 L:r.L=plL s.pg s.np
 rd:r.rd=s.rd
 wr:r.wr=s.wr
 st:r.stops=s.stops
 le:s.stops=true->r.left=(s.left:Int)
 nr:∀id,1<=id->id<=s.room->aw r.nr id=s.fl (id,false)
 ns:∀id,1<=id->id<=s.room->aw r.ns id=s.fl (id,true)
 np:s.np<=s.room
section
variable{s:DS}{r:RS}
theorem bv.stopped(h:bv s r):r.stopped=decide (s.stops=true/\s.left=0):=by
 unfold RS.stopped;rw[h.st]
 cases hs:s.stops with
 |false=>simp
 |true=>rw[h.le hs];simp<;>omega
theorem bv.has(h:bv s r)(id:Nat):(s.has id=true/\1<=id/\id<=s.np/\(s.pg (id-1)).1=true/\atP r.L id=some (plL s.pg (id-1)).length)\/(s.has id=false/\atP r.L id=none):=by
 rw[h.L];by_cases q:1<=id/\id<=s.np/\(s.pg (id-1)).1=true
 .exact .inl ⟨by unfold DS.has;simp[q.1,q.2.1,q.2.2],q.1,q.2.1,q.2.2,(sW q.1 q.2.1 q.2.2).2⟩
 .refine .inr ⟨?_,yP q⟩
  unfold DS.has
  cases hb:(s.pg (id-1)).1 with
  |false=>simp
  |true=>
   have:¬(1<=id/\id<=s.np):=λk=>q ⟨k.1,k.2,hb⟩
   simp[this]
theorem bv.read(h:bv s r)(id:Nat):(s.read id).1=(r.read id).1/\bv (s.read id).2 (r.read id).2:=by
 rcases h.has id with⟨hh,h1,h2,h3,hat⟩|⟨hh,hat⟩
 .have hst:=h.stopped
  by_cases q:s.stops=true/\s.left=0
  .have e1:s.read id=((0,7),s):=by unfold DS.read DS.att;rw[hh];simp[q.1,q.2]
   have e2:r.read id=((0,7),r):=by unfold RS.read;rw[hat];simp only[hst,q,and_self,decide_true,if_true]
   rw[e1,e2];exact⟨rfl,h⟩
  .obtain⟨f1,f2⟩:=mI r.nr id
   rw[h.nr id h1 (by have:=h.np;omega)]at f1 f2;by_cases z:s.fl (id,false)=0
   .have e2:r.read id=(((s.pg (id-1)).2,0),{r with rd:=r.rd+1,left:=r.left-1}):=by
     unfold RS.read;rw[hat];simp only[hst,q,decide_false,f1,z,not_true,Bool.false_eq_true,if_false];rw[h.L,(vp h1 h2 h3 0).2]
    rw[e2]
    cases hs:s.stops with
    |false=>
     have e1:s.read id=(((s.pg (id-1)).2,0),{s with rd:=s.rd+1}):=by unfold DS.read DS.att;rw[hh];simp[hs,z]
     rw[e1];exact⟨rfl,h.room,h.L,congrArg (· +1) h.rd,h.wr,h.st,(λk=>by rw[show s.stops=true from k]at hs;cases hs),h.nr,h.ns,h.np⟩
    |true=>
     have hl:=h.le hs;have hl0:¬s.left=0:=λk=>q ⟨hs,k⟩
     have e1:s.read id=(((s.pg (id-1)).2,0),{s with left:=s.left-1,rd:=s.rd+1}):=by unfold DS.read DS.att;rw[hh];simp[hs,z,hl0]
     rw[e1];exact⟨rfl,h.room,h.L,congrArg (· +1) h.rd,h.wr,h.st,(λ_=>by show r.left-1=((s.left-1:Nat):Int);omega),h.nr,h.ns,h.np⟩
   .have e1:s.read id=((0,7),{s with fl:=bu s.fl (id,false) (s.fl (id,false)-1)}):=by unfold DS.read DS.att;rw[hh];simp[q,z]
    have e2:r.read id=((0,7),{r with nr:=(bn r.nr id).1}):=by unfold RS.read;rw[hat];simp[hst,q,f1,z]
    rw[e1,e2];refine⟨rfl,h.room,h.L,h.rd,h.wr,h.st,h.le,λx x1 x2=>?_,λx x1 x2=>?_,h.np⟩
    .show aw (bn r.nr id).1 x=bu s.fl (id,false) (s.fl (id,false)-1) (x,false)
     rw[f2 x];unfold bu;by_cases e:x=id
     .simp[e]
     .simp[e];exact h.nr x x1 x2
    .show aw r.ns x=bu s.fl (id,false) (s.fl (id,false)-1) (x,true)
     unfold bu;simp;exact h.ns x x1 x2
 .have e1:s.read id=((0,3),s):=by unfold DS.read DS.att;rw[hh];simp
  have e2:r.read id=((0,3),r):=by unfold RS.read;rw[hat]
  rw[e1,e2];exact⟨rfl,h⟩
theorem bv.write(h:bv s r)(id v:Nat):(s.write id v).1=(r.write id v).1/\bv (s.write id v).2 (r.write id v).2:=by
 rcases h.has id with⟨hh,h1,h2,h3,hat⟩|⟨hh,hat⟩
 .have hst:=h.stopped
  by_cases q:s.stops=true/\s.left=0
  .have e1:s.write id v=(7,s):=by unfold DS.write DS.att;rw[hh];simp[q.1,q.2]
   have e2:r.write id v=(7,r):=by unfold RS.write;rw[hat];simp only[hst,q,and_self,decide_true,if_true]
   rw[e1,e2];exact⟨rfl,h⟩
  .obtain⟨f1,f2⟩:=mI r.ns id
   rw[h.ns id h1 (by have:=h.np;omega)]at f1 f2;by_cases z:s.fl (id,true)=0
   .have e2:r.write id v=(0,{r with L:=plL (upd s.pg (id-1) ((s.pg (id-1)).1,v)) s.np,wr:=r.wr+1,left:=r.left-1}):=by
     unfold RS.write;rw[hat];simp only[hst,q,decide_false,f1,z,not_true,Bool.false_eq_true,if_false];rw[h.L,(vp h1 h2 h3 v).1]
    rw[e2]
    cases hs:s.stops with
    |false=>
     have e1:s.write id v=(0,{s with wr:=s.wr+1,pg:=upd s.pg (id-1) ((s.pg (id-1)).1,v)}):=by unfold DS.write DS.att;rw[hh];simp[hs,z]
     rw[e1];exact⟨rfl,h.room,rfl,h.rd,congrArg (· +1) h.wr,h.st,(λk=>by rw[show s.stops=true from k]at hs;cases hs),h.nr,h.ns,h.np⟩
    |true=>
     have hl:=h.le hs;have hl0:¬s.left=0:=λk=>q ⟨hs,k⟩
     have e1:s.write id v=(0,{s with left:=s.left-1,wr:=s.wr+1,pg:=upd s.pg (id-1) ((s.pg (id-1)).1,v)}):=by unfold DS.write DS.att;rw[hh];simp[hs,z,hl0]
     rw[e1];exact⟨rfl,h.room,rfl,h.rd,congrArg (· +1) h.wr,h.st,(λ_=>by show r.left-1=((s.left-1:Nat):Int);omega),h.nr,h.ns,h.np⟩
   .have e1:s.write id v=(7,{s with fl:=bu s.fl (id,true) (s.fl (id,true)-1)}):=by unfold DS.write DS.att;rw[hh];simp[q,z]
    have e2:r.write id v=(7,{r with ns:=(bn r.ns id).1}):=by unfold RS.write;rw[hat];simp[hst,q,f1,z]
    rw[e1,e2];refine⟨rfl,h.room,h.L,h.rd,h.wr,h.st,h.le,λx x1 x2=>?_,λx x1 x2=>?_,h.np⟩
    .show aw r.nr x=bu s.fl (id,true) (s.fl (id,true)-1) (x,false)
     unfold bu;simp;exact h.nr x x1 x2
    .show aw (bn r.ns id).1 x=bu s.fl (id,true) (s.fl (id,true)-1) (x,true)
     rw[f2 x];unfold bu;by_cases e:x=id
     .simp[e]
     .simp[e];exact h.ns x x1 x2
 .have e1:s.write id v=(3,s):=by unfold DS.write DS.att;rw[hh];simp
  have e2:r.write id v=(3,r):=by unfold RS.write;rw[hat]
  rw[e1,e2];exact⟨rfl,h⟩
theorem bv.free_no(h:bv s r){id:Nat}(hh:s.has id=false):r.free id=(3,r):=by
 rcases h.has id with⟨q,_⟩|⟨_,hat⟩
 .rw[hh]at q;cases q
 .unfold RS.free;rw[hat]
theorem bv.free_yes(h:bv s r){id:Nat}(hh:s.has id=true):(r.free id).1=0/\bv (s.gone id) (r.free id).2:=by
 rcases h.has id with⟨_,h1,h2,h3,hat⟩|⟨q,_⟩
 .have e:r.free id=(0,{r with L:=plL (upd s.pg (id-1) (false,0)) s.np}):=by
   unfold RS.free;rw[hat,h.L];simp only[Dm h1 h2 h3]
  rw[e];exact⟨rfl,h.room,rfl,h.rd,h.wr,h.st,h.le,h.nr,h.ns,h.np⟩
 .rw[hh]at q;cases q
theorem bv.stop(h:bv s r)(t:Nat):bv {s with stops:=true,left:=t} {r with stops:=true,left:=(t:Int)}:=
 ⟨h.room,h.L,h.rd,h.wr,rfl,λ_=>rfl,h.nr,h.ns,h.np⟩
def DS.put(s:DS)(k:Nat):DS:={s with np:=max s.np (k+1),pg:=upd s.pg k (true,0)}
theorem bv.put(h:bv s r){k:Nat}(hg:Gap r.L k)(hl:r.L.length<r.room):bv (s.put k) (r.ins k):=by
 rw[h.L]at hg hl;obtain⟨g1,g2,g3,g4⟩:=ki hg;refine⟨h.room,?_,h.rd,h.wr,h.st,h.le,h.nr,h.ns,?_⟩
 .show r.L.take k++[(k+1,0)]++r.L.drop k=_
  rw[h.L];exact g4
 .show max s.np (k+1)<=s.room
  have hnp:=h.np;rw[h.room]at hl;rcases Nat.lt_or_ge k s.np with q|q
  .omega
  .have e:k=s.np:=by omega
   subst e;have:(plL s.pg s.np).length=s.np:=k8 (λi _ q=>g2 i (by omega));omega
end
section
variable{w0 w w' w1:World}{db rb m m' c mb nf ob:Nat}{s s1:DS}{r r1:RS}{pv fv lv nv sv:Value}{fh:Nat->Nat}{oc:Nat->Value}
theorem DS.read_b(s:DS)(id:Nat):(s.read id).2.rd<=s.rd+1/\(s.read id).2.wr=s.wr:=by
 obtain⟨a1,a2,a3,a4,a5⟩:=s.att_2 id false;unfold DS.read
 split
 .exact⟨Nat.le_refl _,a5⟩
 .exact⟨by show(s.att id false).2.rd<=_;omega,a5⟩
theorem DS.write_b(s:DS)(id v:Nat):(s.write id v).2.rd=s.rd/\(s.write id v).2.wr<=s.wr+1:=by
 obtain⟨a1,a2,a3,a4,a5⟩:=s.att_2 id true;unfold DS.write
 split
 .exact⟨a4,Nat.le_refl _⟩
 .exact⟨a4,by show(s.att id true).2.wr<=_;omega⟩
end
def tk2:DS:=(dk0 2).grow.grow
end
section
open Go.RowKit
theorem xO(z:Int):0<=IntKind.u64.wrap z/\IntKind.u64.wrap z<18446744073709551616:=by
 simp only[IntKind.wrap,IntKind.signed,IntKind.bits];simp;omega
theorem mH{z:Int}(h0:0<=z)(h1:z<1000000):wrap64 z=z:=by
 have:=IntKind.wrap_i64 z;unfold wrap64;omega
theorem Gy(z:Int){k:Int}(h0:0<k)(h1:k<1000):∃r:Nat,(r:Int)<k/\wrap64 ((IntKind.u64.wrap z).tmod k)=r:=by
 obtain⟨a,b⟩:=xO z;have h2:(IntKind.u64.wrap z).tmod k=(IntKind.u64.wrap z)%k:=Int.tmod_eq_emod_of_nonneg a;have h3:0<=(IntKind.u64.wrap z)%k:=Int.emod_nonneg _ (by omega);have h4:(IntKind.u64.wrap z)%k<k:=Int.emod_lt_of_pos _ h0;refine⟨((IntKind.u64.wrap z)%k).toNat,by omega,?_⟩;rw[h2,mH h3 (by omega)];omega
theorem Gs(z:Int){k:Int}(h0:0<k)(h1:k<1000):∃m:Nat,1<=m/\(m:Int)<=k/\wrap64 (1+wrap64 ((IntKind.u64.wrap z).tmod k))=(m:Int):=by
 obtain⟨r,h2,h3⟩:=Gy z h0 h1;exact⟨r+1,by omega,by omega,by rw[h3,mH (by omega) (by omega)];omega⟩
def DLt(s:DS)(r:RS):Prop:=bv s r\/r.stops=false/\bv s {r with stops:=true}/\900000<=r.left+(r.rd:Int)+(r.wr:Int)
section
variable{s:DS}{r:RS}
theorem DLt.room(h:DLt s r):r.room=s.room:=h.elim (·.room) (·.2.1.room)
theorem DLt.L(h:DLt s r):r.L=plL s.pg s.np:=h.elim (·.L) (·.2.1.L)
theorem DLt.np(h:DLt s r):s.np<=s.room:=h.elim (·.np) (·.2.1.np)
theorem DLt.read(h:DLt s r)(id:Nat)(hb:s.rd+s.wr<900000):(s.read id).1=(r.read id).1/\DLt (s.read id).2 (r.read id).2:=by
 rcases h with h|⟨h0,h1,h2⟩
 .exact⟨(h.read id).1,.inl (h.read id).2⟩
 .have e1:=h1.rd
  have e2:=h1.wr;simp only at e1 e2;have hs1:({r with stops:=true}:RS).stopped=false:=by simp[RS.stopped];omega
  have hs2:r.stopped=false:=by simp[RS.stopped,h0]
  obtain⟨k1,k2⟩:=h1.read id
  have key:(({r with stops:=true}:RS).read id).1=(r.read id).1/\(({r with stops:=true}:RS).read id).2={(r.read id).2 with stops:=true}/\(r.read id).2.stops=false/\(r.read id).2.left+((r.read id).2.rd:Int)+((r.read id).2.wr:Int)=r.left+(r.rd:Int)+(r.wr:Int):=by
   unfold RS.read;rw[hs1,hs2]
   cases atP r.L id with
   |none=>exact⟨rfl,rfl,h0,rfl⟩
   |some k=>
    simp only[Bool.false_eq_true,if_false]
    split
    .exact⟨rfl,rfl,h0,rfl⟩
    .refine⟨rfl,rfl,h0,?_⟩
     show r.left-1+((r.rd+1:Nat):Int)+(r.wr:Int)=_
     omega
  obtain⟨a1,a2,a3,a4⟩:=key;rw[a1]at k1;rw[a2]at k2;exact⟨k1,.inr ⟨a3,k2,by rw[a4];exact h2⟩⟩
theorem DLt.write(h:DLt s r)(id v:Nat)(hb:s.rd+s.wr<900000):(s.write id v).1=(r.write id v).1/\DLt (s.write id v).2 (r.write id v).2:=by
 rcases h with h|⟨h0,h1,h2⟩
 .exact⟨(h.write id v).1,.inl (h.write id v).2⟩
 .have e1:=h1.rd
  have e2:=h1.wr;simp only at e1 e2;have hs1:({r with stops:=true}:RS).stopped=false:=by simp[RS.stopped];omega
  have hs2:r.stopped=false:=by simp[RS.stopped,h0]
  obtain⟨k1,k2⟩:=h1.write id v
  have key:(({r with stops:=true}:RS).write id v).1=(r.write id v).1/\(({r with stops:=true}:RS).write id v).2={(r.write id v).2 with stops:=true}/\(r.write id v).2.stops=false/\(r.write id v).2.left+((r.write id v).2.rd:Int)+((r.write id v).2.wr:Int)=r.left+(r.rd:Int)+(r.wr:Int):=by
   unfold RS.write;rw[hs1,hs2]
   cases atP r.L id with
   |none=>exact⟨rfl,rfl,h0,rfl⟩
   |some k=>
    simp only[Bool.false_eq_true,if_false]
    split
    .exact⟨rfl,rfl,h0,rfl⟩
    .refine⟨rfl,rfl,h0,?_⟩
     show r.left-1+(r.rd:Int)+((r.wr+1:Nat):Int)=_
     omega
  obtain⟨a1,a2,a3,a4⟩:=key;rw[a1]at k1;rw[a2]at k2;exact⟨k1,.inr ⟨a3,k2,by rw[a4];exact h2⟩⟩
theorem RS.free_st(r:RS)(id:Nat):(({r with stops:=true}:RS).free id).1=(r.free id).1/\(({r with stops:=true}:RS).free id).2={(r.free id).2 with stops:=true}/\(r.free id).2.stops=r.stops/\(r.free id).2.left=r.left/\(r.free id).2.rd=r.rd/\(r.free id).2.wr=r.wr:=by
 unfold RS.free
 cases atP r.L id with
 |none=>exact⟨rfl,rfl,rfl,rfl,rfl,rfl⟩
 |some k=>exact⟨rfl,rfl,rfl,rfl,rfl,rfl⟩
theorem DLt.free_no(h:DLt s r){id:Nat}(hh:s.has id=false):r.free id=(3,r):=by
 rcases h with h|⟨h0,h1,h2⟩
 .exact h.free_no hh
 .have k:=h1.free_no hh
  unfold RS.free at k⊢;simp only at k
  split at k
  .rfl
  .simp at k
theorem DLt.free_yes(h:DLt s r){id:Nat}(hh:s.has id=true):(r.free id).1=0/\DLt (s.gone id) (r.free id).2:=by
 rcases h with h|⟨h0,h1,h2⟩
 .exact⟨(h.free_yes hh).1,.inl (h.free_yes hh).2⟩
 .obtain⟨k1,k2⟩:=h1.free_yes hh
  obtain⟨a1,a2,a3,a4,a5,a6⟩:=r.free_st id;rw[a1]at k1;rw[a2]at k2;exact⟨k1,.inr ⟨a3.trans h0,k2,by rw[a4,a5,a6];exact h2⟩⟩
theorem DLt.late(h:DLt s r)(h0:r.stops=false){t:Nat}(ht:900000<=t):DLt {s with stops:=true,left:=t} {r with left:=(t:Int)}:=by
 refine .inr ⟨h0,h.elim (λh=>h.stop t) (λh=>h.2.1.stop t),?_⟩
 show(900000:Int)<=(t:Int)+(r.rd:Int)+(r.wr:Int)
 omega
theorem DLt.put(h:DLt s r){k:Nat}(hg:Gap r.L k)(hl:r.L.length<r.room):DLt (s.put k) (r.ins k):=by
 rcases h with h|⟨h0,h1,h2⟩
 .exact .inl (h.put hg hl)
 .exact .inr ⟨h0,h1.put hg hl,h2⟩
end
end
end Go.Proofs.YtoenclhimbpfeaaGreatDoor
