/- Part 32. -/
import Derived.Test.YtkjhnllcphidpaaGreatDoorQ31
import Derived.Deep.RegionHeld3
import Derived.LaidEqlPtr
import Derived.Test.YtkjhnllcphidpaaGreatDoorQ29
import Derived.StillTailTactics
namespace Go.Proofs.YtkjhnllcphidpaaGreatDoor
set_option linter.all false
set_option maxHeartbeats 16000000
set_option maxRecDepth 100000
section
open Go.Maps Go.RowKit
def plR(pg:Nat->Bool×Nat)(a n:Nat):List (Nat×Nat):=((List.range' a n).filter λi=>(pg i).1).map λi=>(i+1,(pg i).2)
def plL(pg:Nat->Bool×Nat)(n:Nat):List (Nat×Nat):=plR pg 0 n
theorem eM(pg:Nat->Bool×Nat)(a m n:Nat):plR pg a (m+n)=plR pg a m++plR pg (a+m) n:=by
 unfold plR;rw[<-List.range'_append_1,List.filter_append,List.map_append]
theorem cZ(pg:Nat->Bool×Nat)(a:Nat):plR pg a 1=if(pg a).1=true then[(a+1,(pg a).2)]else[]:=by
 unfold plR;by_cases h:(pg a).1=true<;>simp[h]
theorem gu{pg pg':Nat->Bool×Nat}{a n:Nat}(h:∀i,a<=i->i<a+n->pg i=pg' i):plR pg a n=plR pg' a n:=by
 induction n generalizing a with
 |zero=>rfl
 |succ n ih=>
  have e1:=eM pg a 1 n;have e2:=eM pg' a 1 n;rw[Nat.add_comm n 1,e1,e2,cZ,cZ,h a (by omega) (by omega),ih (a:=a+1) (λi h1 h2=>h i (by omega) (by omega))]
theorem kn{pg:Nat->Bool×Nat}{a n:Nat}{p:Nat×Nat}:p∈plR pg a n↔∃i,a<=i/\i<a+n/\(pg i).1=true/\p=(i+1,(pg i).2):=by
 unfold plR;simp only[List.mem_map,List.mem_filter,List.mem_range'_1];constructor
 .rintro⟨i,⟨⟨h1,h2⟩,h3⟩,rfl⟩;exact⟨i,h1,h2,h3,rfl⟩
 .rintro⟨i,h1,h2,h3,rfl⟩;exact⟨i,⟨⟨h1,h2⟩,h3⟩,rfl⟩
theorem oG(pg:Nat->Bool×Nat)(a n:Nat):(plR pg a n).length<=n:=by
 unfold plR;rw[List.length_map];exact Nat.le_trans (List.length_filter_le _ _) (by rw[List.length_range'];exact Nat.le_refl _)
theorem l8{pg:Nat->Bool×Nat}{a n:Nat}(h:∀i,a<=i->i<a+n->(pg i).1=true):(plR pg a n).length=n:=by
 unfold plR;rw[List.length_map,List.filter_eq_self.2 (λi hi=>by rw[List.mem_range'_1]at hi;exact h i hi.1 hi.2),List.length_range']
theorem dZ(pg:Nat->Bool×Nat){i n:Nat}(h:i<n):plL pg n=plL pg i++(plR pg i 1++plR pg (i+1) (n-i-1)):=by
 unfold plL;have e:=eM pg 0 i (1+(n-i-1));rw[show i+(1+(n-i-1))=n from by omega,Nat.zero_add,eM]at e;exact e
theorem xu{pg:Nat->Bool×Nat}{i n:Nat}(h:i<n)(hf:(pg i).1=false):(plL pg n).length<n:=by
 rw[dZ pg h,cZ,hf];have h1:=oG pg 0 i;have h2:=oG pg (i+1) (n-i-1);unfold plL;simp only[List.length_append];simp;omega
theorem Cy(pg:Nat->Bool×Nat)(n:Nat):kK pg n=(plL pg n).map (·.1):=by
 unfold kK plL plR;rw[List.map_map,List.range_eq_range'];rfl
theorem gI{A B:List (Nat×Nat)}{id v:Nat}(h:∀p∈A,¬p.1=id):atP (A++(id,v)::B) id=some A.length:=by
 refine yZ (k:=A.length) (by simp) (by simp) (λj hj=>?_);rw[List.getElem_append_left hj];exact h _ (List.getElem_mem hj)
theorem pA{L:List (Nat×Nat)}{id:Nat}(h:∀p∈L,¬p.1=id):atP L id=none:=y9 (λk hk=>h _ (List.getElem_mem hk))
theorem t8{pg:Nat->Bool×Nat}{n id:Nat}(h1:1<=id)(h2:id<=n)(h3:(pg (id-1)).1=true):plL pg n=plL pg (id-1)++(id,(pg (id-1)).2)::plR pg id (n-id)/\atP (plL pg n) id=some (plL pg (id-1)).length:=by
 have e:plL pg n=plL pg (id-1)++(id,(pg (id-1)).2)::plR pg id (n-id):=by
  rw[dZ pg (i:=id-1) (by omega),cZ,if_pos h3,show id-1+1=id from by omega,show n-(id-1)-1=n-id from by omega];rfl
 refine⟨e,?_⟩;rw[e];refine gI (λp hp=>?_);unfold plL at hp;obtain⟨i,_,q,_,rfl⟩:=kn.1 hp
 show¬i+1=id
 omega
theorem Bi{pg:Nat->Bool×Nat}{n id:Nat}(h:¬(1<=id/\id<=n/\(pg (id-1)).1=true)):atP (plL pg n) id=none:=by
 refine pA (λp hp q=>?_);unfold plL at hp;obtain⟨i,_,h2,h3,rfl⟩:=kn.1 hp;have q:i+1=id:=q;subst q;exact h ⟨by omega,by omega,by rw[Nat.add_sub_cancel];exact h3⟩
theorem uO{pg:Nat->Bool×Nat}{n id:Nat}(h1:1<=id)(h2:id<=n)(b:Bool)(v:Nat):plL (upd pg (id-1) (b,v)) n=plL pg (id-1)++((if b=true then[(id,v)]else[])++plR pg id (n-id)):=by
 rw[dZ _ (i:=id-1) (by omega),cZ,upd_same,show id-1+1=id from by omega,show n-(id-1)-1=n-id from by omega];have e1:plL (upd pg (id-1) (b,v)) (id-1)=plL pg (id-1):=gu (λi _ q=>ab _ _ (by omega));have e2:plR (upd pg (id-1) (b,v)) id (n-id)=plR pg id (n-id):=gu (λi q _=>ab _ _ (by omega));rw[e1,e2]
theorem uL{pg:Nat->Bool×Nat}{n id:Nat}(h1:1<=id)(h2:id<=n)(h3:(pg (id-1)).1=true)(v:Nat):(plL pg n).set (plL pg (id-1)).length (((plL pg n).getD (plL pg (id-1)).length (0,0)).1,v)=plL (upd pg (id-1) ((pg (id-1)).1,v)) n/\(plL pg n).getD (plL pg (id-1)).length (0,0)=(id,(pg (id-1)).2):=by
 have e:=(t8 h1 h2 h3).1;have g:(plL pg n).getD (plL pg (id-1)).length (0,0)=(id,(pg (id-1)).2):=by rw[e];simp
 refine⟨?_,g⟩;rw[g,h3,uO h1 h2,if_pos rfl]
 conv=>lhs;rw[e]
 simp
theorem CO{pg:Nat->Bool×Nat}{n id:Nat}(h1:1<=id)(h2:id<=n)(h3:(pg (id-1)).1=true):(plL pg n).take (plL pg (id-1)).length++(plL pg n).drop ((plL pg (id-1)).length+1)=plL (upd pg (id-1) (false,0)) n:=by
 have e:=(t8 h1 h2 h3).1;rw[uO h1 h2,if_neg (by simp),e];simp
theorem kC{pg:Nat->Bool×Nat}{n k:Nat}(h:Gap (plL pg n) k):k<=n/\(∀j,j<k->(pg j).1=true)/\(k<n->(pg k).1=false)/\(plL pg n).take k++[(k+1,0)]++(plL pg n).drop k=plL (upd pg k (true,0)) (max n (k+1)):=by
 have hall:∀j,j<k->j<n/\(pg j).1=true:=by
  intro j hj;have hl:j<(plL pg n).length:=by have:=h.le;omega
  have hm:=List.getElem_mem hl;have ha:=h.all j hl hj;unfold plL at hm;obtain⟨i,_,q2,q3,q4⟩:=kn.1 hm
  have e:i=j:=by
   have:((plL pg n)[j]).1=i+1:=by unfold plL;rw[q4]
   omega
  subst e;exact⟨by omega,q3⟩
 have hkn:k<=n:=by
  rcases Nat.eq_zero_or_pos k with q|q
  .omega
  .have:=(hall (k-1) (by omega)).1;omega
 have hfull:(plL pg k).length=k:=l8 (λi _ q=>(hall i (by omega)).2)
 have esp:plL pg n=plL pg k++plR pg k (n-k):=by
  have:=eM pg 0 k (n-k);rw[show k+(n-k)=n from by omega,Nat.zero_add]at this;exact this
 have hnot:k<n->(pg k).1=false:=by
  intro q
  cases hb:(pg k).1 with
  |false=>rfl
  |true=>
   have e2:=eM pg k 1 (n-k-1);rw[show 1+(n-k-1)=n-k from by omega,cZ,if_pos hb]at e2;have hl:k<(plL pg n).length:=by rw[esp,e2,List.length_append,hfull];simp
   have:=h.not hl;refine(this ?_).elim
   have e3:(plL pg n)[k]?=some (k+1,(pg k).2):=by
    rw[esp,e2,List.getElem?_append_right (by omega),hfull];simp
   rw[List.getElem?_eq_getElem hl]at e3;rw[Option.some.inj e3]
 refine⟨hkn,λj q=>(hall j q).2,hnot,?_⟩;have et:(plL pg n).take k=plL pg k:=by rw[esp];exact List.take_left' hfull
 have ed:(plL pg n).drop k=plR pg k (n-k):=by rw[esp];exact List.drop_left' hfull
 rw[et,ed];have ek:plL (upd pg k (true,0)) k=plL pg k:=gu (λi _ q=>ab _ _ (by omega));by_cases q:k<n
 .rw[show max n (k+1)=n from by omega,dZ _ q,cZ,upd_same,if_pos rfl,ek]
  have e2:=eM pg k 1 (n-k-1);rw[show 1+(n-k-1)=n-k from by omega,cZ,if_neg (by rw[hnot q];simp)]at e2;have e4:plR (upd pg k (true,0)) (k+1) (n-k-1)=plR pg (k+1) (n-k-1):=gu (λi q _=>ab _ _ (by omega));rw[e2,e4];simp
 .obtain rfl:k=n:=by omega
  rw[show max k (k+1)=k+1 from by omega,dZ (upd pg k (true,0)) (i:=k) (n:=k+1) (by omega),cZ,upd_same,if_pos rfl,ek,show k+1-k-1=0 from by omega,Nat.sub_self];simp[plR]
theorem Gap.same{L:List (Nat×Nat)}{k k':Nat}(h:Gap L k)(h':Gap L k'):k=k':=by
 rcases Nat.lt_trichotomy k k' with q|q|q
 .have hl:k<L.length:=by have:=h'.le;omega
  exact(h.not hl (h'.all k hl q)).elim
 .exact q
 .have hl:k'<L.length:=by have:=h.le;omega
  exact(h'.not hl (h.all k' hl q)).elim
def aB(l:List (Nat×Nat))(id:Nat):Nat:=match atP l id with
 |none=>0
 |some k=>(l.getD k (0,0)).2
theorem atP_of{l:List (Nat×Nat)}{id:Nat}:(atP l id=none/\∀p∈l,¬p.1=id)\/∃A v B,l=A++(id,v)::B/\(∀p∈A,¬p.1=id)/\atP l id=some A.length/\aB l id=v:=by
 induction l with
 |nil=>exact .inl ⟨rfl,λp hp=>(by cases hp)⟩
 |cons a l ih=>
  by_cases e:a.1=id
  .obtain⟨a1,a2⟩:=a
   have e:a1=id:=e;subst e;have h1:atP ((a1,a2)::l) a1=some 0:=gI (A:=[]) (λp hp=>(by cases hp));exact .inr ⟨[],a2,l,rfl,λp hp=>(by cases hp),h1,by unfold aB;rw[h1];rfl⟩
  .rcases ih with⟨h1,h2⟩|⟨A,v,B,rfl,h2,h3,h4⟩
   .have h5:∀p∈a::l,¬p.1=id:=λp hp=>by
     rcases List.mem_cons.1 hp with rfl|q
     .exact e
     .exact h2 p q
    exact .inl ⟨pA h5,h5⟩
   .have h5:∀p∈a::A,¬p.1=id:=λp hp=>by
     rcases List.mem_cons.1 hp with rfl|q
     .exact e
     .exact h2 p q
    have h6:atP (a::(A++(id,v)::B)) id=some (a::A).length:=gI h5;exact .inr ⟨a::A,v,B,rfl,h5,h6,by unfold aB;rw[h6];simp⟩
theorem cm{A B:List (Nat×Nat)}{id v:Nat}(h:∀p∈A,¬p.1=id):aB (A++(id,v)::B) id=v:=by
 unfold aB;rw[gI h];simp
theorem mt{A B:List (Nat×Nat)}{id v v' x:Nat}(hx:¬x=id):aB (A++(id,v)::B) x=aB (A++(id,v')::B) x:=by
 induction A with
 |nil=>
  rcases atP_of (l:=B) (id:=x)with⟨h1,h2⟩|⟨A',u,B',rfl,h2,h3,h4⟩
  .have g:∀v,aB ([]++(id,v)::B) x=0:=λv=>by
    unfold aB
    rw[pA (λp hp=>by
     rcases List.mem_cons.1 hp with rfl|q
     .exact λq=>hx q.symm
     .exact h2 p q)]
   rw[g,g]
  .have g:∀v,aB ([]++(id,v)::(A'++(x,u)::B')) x=u:=λv=>cm (A:=(id,v)::A') (λp hp=>by
     rcases List.mem_cons.1 hp with rfl|q
     .exact λq=>hx q.symm
     .exact h2 p q)
   rw[g,g]
 |cons a A ih=>
  by_cases e:a.1=x
  .obtain⟨a1,a2⟩:=a
   have e:a1=x:=e;subst e;have g:∀l,aB ((a1,a2)::l) a1=a2:=λl=>cm (A:=[]) (λp hp=>(by cases hp))
   exact(g _).trans (g _).symm
  .have g:∀l:List (Nat×Nat),aB (a::l) x=aB l x:=λl=>by
    rcases atP_of (l:=l) (id:=x)with⟨h1,h2⟩|⟨A',u,B',rfl,h2,h3,h4⟩
    .unfold aB
     rw[h1,pA (λp hp=>by
      rcases List.mem_cons.1 hp with rfl|q
      .exact e
      .exact h2 p q)]
    .rw[h4]
     exact cm (A:=a::A') (λp hp=>by
      rcases List.mem_cons.1 hp with rfl|q
      .exact e
      .exact h2 p q)
   show aB (a::(A++(id,v)::B)) x=aB (a::(A++(id,v')::B)) x
   rw[g,g];exact ih
theorem nQ(l:List (Nat×Nat))(id:Nat):(bn l id).2=decide (¬aB l id=0)/\∀x,aB (bn l id).1 x=if x=id then aB l id-1 else aB l x:=by
 rcases atP_of (l:=l) (id:=id)with⟨h1,h2⟩|⟨A,v,B,rfl,h2,h3,h4⟩
 .have hv:aB l id=0:=by unfold aB;rw[h1]
  have e:bn l id=(l,false):=by unfold bn;rw[h1]
  rw[e,hv];refine⟨by simp,λx=>?_⟩
  split
  .rename_i q;rw[q,hv]
  .rfl
 .have g:(A++(id,v)::B).getD A.length (0,0)=(id,v):=by simp
  rw[h4];by_cases hz:v=0
  .subst hz
   have e:bn (A++(id,0)::B) id=(A++(id,0)::B,false):=by unfold bn;rw[h3];simp only[g,if_true]
   rw[e];refine⟨by simp,λx=>?_⟩
   split
   .rename_i q;rw[q,h4]
   .rfl
  .have e:bn (A++(id,v)::B) id=(A++(id,v-1)::B,true):=by
    unfold bn;rw[h3];simp only[g,hz,if_false];simp
   rw[e];refine⟨by simp[hz],λx=>?_⟩
   split
   .rename_i q;rw[q];exact cm h2
   .rename_i q;exact mt q
structure cu(s:DS)(r:RS):Prop where
 room:r.room=s.room
 L:r.L=plL s.pg s.np
 rd:r.rd=s.rd
 wr:r.wr=s.wr
 st:r.stops=s.stops
 le:s.stops=true->r.left=(s.left:Int)
 nr:∀id,1<=id->id<=s.room->aB r.nr id=s.fl (id,false)
 ns:∀id,1<=id->id<=s.room->aB r.ns id=s.fl (id,true)
 np:s.np<=s.room
section
variable{s:DS}{r:RS}
theorem cu.stopped(h:cu s r):r.stopped=decide (s.stops=true/\s.left=0):=by
 unfold RS.stopped;rw[h.st]
 cases hs:s.stops with
 |false=>simp
 |true=>rw[h.le hs];simp<;>omega
theorem cu.has(h:cu s r)(id:Nat):(s.has id=true/\1<=id/\id<=s.np/\(s.pg (id-1)).1=true/\atP r.L id=some (plL s.pg (id-1)).length)\/(s.has id=false/\atP r.L id=none):=by
 rw[h.L];by_cases q:1<=id/\id<=s.np/\(s.pg (id-1)).1=true
 .exact .inl ⟨by unfold DS.has;simp[q.1,q.2.1,q.2.2],q.1,q.2.1,q.2.2,(t8 q.1 q.2.1 q.2.2).2⟩
 .refine .inr ⟨?_,Bi q⟩
  unfold DS.has
  cases hb:(s.pg (id-1)).1 with
  |false=>simp
  |true=>
   have:¬(1<=id/\id<=s.np):=λk=>q ⟨k.1,k.2,hb⟩
   simp[this]
theorem cu.read(h:cu s r)(id:Nat):(s.read id).1=(r.read id).1/\cu (s.read id).2 (r.read id).2:=by
 rcases h.has id with⟨hh,h1,h2,h3,hat⟩|⟨hh,hat⟩
 .have hst:=h.stopped
  by_cases q:s.stops=true/\s.left=0
  .have e1:s.read id=((0,7),s):=by unfold DS.read DS.att;rw[hh];simp[q.1,q.2]
   have e2:r.read id=((0,7),r):=by unfold RS.read;rw[hat];simp only[hst,q,and_self,decide_true,if_true]
   rw[e1,e2];exact⟨rfl,h⟩
  .obtain⟨f1,f2⟩:=nQ r.nr id
   rw[h.nr id h1 (by have:=h.np;omega)]at f1 f2;by_cases z:s.fl (id,false)=0
   .have e2:r.read id=(((s.pg (id-1)).2,0),{r with rd:=r.rd+1,left:=r.left-1}):=by
     unfold RS.read;rw[hat];simp only[hst,q,decide_false,f1,z,not_true,Bool.false_eq_true,if_false];rw[h.L,(uL h1 h2 h3 0).2]
    rw[e2]
    cases hs:s.stops with
    |false=>
     have e1:s.read id=(((s.pg (id-1)).2,0),{s with rd:=s.rd+1}):=by unfold DS.read DS.att;rw[hh];simp[hs,z]
     rw[e1];exact⟨rfl,h.room,h.L,congrArg (· +1) h.rd,h.wr,h.st,(λk=>by rw[show s.stops=true from k]at hs;cases hs),h.nr,h.ns,h.np⟩
    |true=>
     have hl:=h.le hs;have hl0:¬s.left=0:=λk=>q ⟨hs,k⟩
     have e1:s.read id=(((s.pg (id-1)).2,0),{s with left:=s.left-1,rd:=s.rd+1}):=by unfold DS.read DS.att;rw[hh];simp[hs,z,hl0]
     rw[e1];exact⟨rfl,h.room,h.L,congrArg (· +1) h.rd,h.wr,h.st,(λ_=>by show r.left-1=((s.left-1:Nat):Int);omega),h.nr,h.ns,h.np⟩
   .have e1:s.read id=((0,7),{s with fl:=bu s.fl (id,false) (s.fl (id,false)-1)}):=by unfold DS.read DS.att;rw[hh];simp[q,z]
    have e2:r.read id=((0,7),{r with nr:=(bn r.nr id).1}):=by unfold RS.read;rw[hat];simp[hst,q,f1,z]
    rw[e1,e2];refine⟨rfl,h.room,h.L,h.rd,h.wr,h.st,h.le,λx x1 x2=>?_,λx x1 x2=>?_,h.np⟩
    .show aB (bn r.nr id).1 x=bu s.fl (id,false) (s.fl (id,false)-1) (x,false)
     rw[f2 x];unfold bu;by_cases e:x=id
     .simp[e]
     .simp[e];exact h.nr x x1 x2
    .show aB r.ns x=bu s.fl (id,false) (s.fl (id,false)-1) (x,true)
     unfold bu;simp;exact h.ns x x1 x2
 .have e1:s.read id=((0,3),s):=by unfold DS.read DS.att;rw[hh];simp
  have e2:r.read id=((0,3),r):=by unfold RS.read;rw[hat]
  rw[e1,e2];exact⟨rfl,h⟩
theorem cu.write(h:cu s r)(id v:Nat):(s.write id v).1=(r.write id v).1/\cu (s.write id v).2 (r.write id v).2:=by
 rcases h.has id with⟨hh,h1,h2,h3,hat⟩|⟨hh,hat⟩
 .have hst:=h.stopped
  by_cases q:s.stops=true/\s.left=0
  .have e1:s.write id v=(7,s):=by unfold DS.write DS.att;rw[hh];simp[q.1,q.2]
   have e2:r.write id v=(7,r):=by unfold RS.write;rw[hat];simp only[hst,q,and_self,decide_true,if_true]
   rw[e1,e2];exact⟨rfl,h⟩
  .obtain⟨f1,f2⟩:=nQ r.ns id
   rw[h.ns id h1 (by have:=h.np;omega)]at f1 f2;by_cases z:s.fl (id,true)=0
   .have e2:r.write id v=(0,{r with L:=plL (upd s.pg (id-1) ((s.pg (id-1)).1,v)) s.np,wr:=r.wr+1,left:=r.left-1}):=by
     unfold RS.write;rw[hat];simp only[hst,q,decide_false,f1,z,not_true,Bool.false_eq_true,if_false];rw[h.L,(uL h1 h2 h3 v).1]
    rw[e2]
    cases hs:s.stops with
    |false=>
     have e1:s.write id v=(0,{s with wr:=s.wr+1,pg:=upd s.pg (id-1) ((s.pg (id-1)).1,v)}):=by unfold DS.write DS.att;rw[hh];simp[hs,z]
     rw[e1];exact⟨rfl,h.room,rfl,h.rd,congrArg (· +1) h.wr,h.st,(λk=>by rw[show s.stops=true from k]at hs;cases hs),h.nr,h.ns,h.np⟩
    |true=>
     have hl:=h.le hs;have hl0:¬s.left=0:=λk=>q ⟨hs,k⟩
     have e1:s.write id v=(0,{s with left:=s.left-1,wr:=s.wr+1,pg:=upd s.pg (id-1) ((s.pg (id-1)).1,v)}):=by unfold DS.write DS.att;rw[hh];simp[hs,z,hl0]
     rw[e1];exact⟨rfl,h.room,rfl,h.rd,congrArg (· +1) h.wr,h.st,(λ_=>by show r.left-1=((s.left-1:Nat):Int);omega),h.nr,h.ns,h.np⟩
   .have e1:s.write id v=(7,{s with fl:=bu s.fl (id,true) (s.fl (id,true)-1)}):=by unfold DS.write DS.att;rw[hh];simp[q,z]
    have e2:r.write id v=(7,{r with ns:=(bn r.ns id).1}):=by unfold RS.write;rw[hat];simp[hst,q,f1,z]
    rw[e1,e2];refine⟨rfl,h.room,h.L,h.rd,h.wr,h.st,h.le,λx x1 x2=>?_,λx x1 x2=>?_,h.np⟩
    .show aB r.nr x=bu s.fl (id,true) (s.fl (id,true)-1) (x,false)
     unfold bu;simp;exact h.nr x x1 x2
    .show aB (bn r.ns id).1 x=bu s.fl (id,true) (s.fl (id,true)-1) (x,true)
     rw[f2 x];unfold bu;by_cases e:x=id
     .simp[e]
     .simp[e];exact h.ns x x1 x2
 .have e1:s.write id v=(3,s):=by unfold DS.write DS.att;rw[hh];simp
  have e2:r.write id v=(3,r):=by unfold RS.write;rw[hat]
  rw[e1,e2];exact⟨rfl,h⟩
theorem cu.free_no(h:cu s r){id:Nat}(hh:s.has id=false):r.free id=(3,r):=by
 rcases h.has id with⟨q,_⟩|⟨_,hat⟩
 .rw[hh]at q;cases q
 .unfold RS.free;rw[hat]
theorem cu.free_yes(h:cu s r){id:Nat}(hh:s.has id=true):(r.free id).1=0/\cu (s.gone id) (r.free id).2:=by
 rcases h.has id with⟨_,h1,h2,h3,hat⟩|⟨q,_⟩
 .have e:r.free id=(0,{r with L:=plL (upd s.pg (id-1) (false,0)) s.np}):=by
   unfold RS.free;rw[hat,h.L];simp only[CO h1 h2 h3]
  rw[e];exact⟨rfl,h.room,rfl,h.rd,h.wr,h.st,h.le,h.nr,h.ns,h.np⟩
 .rw[hh]at q;cases q
def DS.put(s:DS)(k:Nat):DS:={s with np:=max s.np (k+1),pg:=upd s.pg k (true,0)}
theorem cu.put(h:cu s r){k:Nat}(hg:Gap r.L k)(hl:r.L.length<r.room):cu (s.put k) (r.ins k):=by
 rw[h.L]at hg hl;obtain⟨g1,g2,g3,g4⟩:=kC hg;refine⟨h.room,?_,h.rd,h.wr,h.st,h.le,h.nr,h.ns,?_⟩
 .show r.L.take k++[(k+1,0)]++r.L.drop k=_
  rw[h.L];exact g4
 .show max s.np (k+1)<=s.room
  have hnp:=h.np;rw[h.room]at hl;rcases Nat.lt_or_ge k s.np with q|q
  .omega
  .have e:k=s.np:=by omega
   subst e;have:(plL s.pg s.np).length=s.np:=l8 (λi _ q=>g2 i (by omega));omega
end
section
variable{w0 w w' w1:World}{db rb m m' c mb nf ob:Nat}{s s1:DS}{r r1:RS}{pv fv lv nv sv:Value}{fh:Nat->Nat}{oc:Nat->Value}
theorem DS.read_b(s:DS)(id:Nat):(s.read id).2.rd<=s.rd+1/\(s.read id).2.wr=s.wr:=by
 obtain⟨a1,a2,a3,a4,a5⟩:=s.att_2 id false;unfold DS.read
 split
 .exact⟨Nat.le_refl _,a5⟩
 .exact⟨by show(s.att id false).2.rd<=_;omega,a5⟩
theorem DS.write_b(s:DS)(id v:Nat):(s.write id v).2.rd=s.rd/\(s.write id v).2.wr<=s.wr+1:=by
 obtain⟨a1,a2,a3,a4,a5⟩:=s.att_2 id true;unfold DS.write
 split
 .exact⟨a4,Nat.le_refl _⟩
 .exact⟨a4,by show(s.att id true).2.wr<=_;omega⟩
end
def tk2:DS:=(dk0 2).grow.grow
end
section
open Go.RowKit
theorem xN(z:Int):0<=IntKind.u64.wrap z/\IntKind.u64.wrap z<18446744073709551616:=by
 simp only[IntKind.wrap,IntKind.signed,IntKind.bits];simp;omega
theorem nP{z:Int}(h0:0<=z)(h1:z<1000000):wrap64 z=z:=by
 have:=IntKind.wrap_i64 z;unfold wrap64;omega
theorem Fp(z:Int){k:Int}(h0:0<k)(h1:k<1000):∃r:Nat,(r:Int)<k/\wrap64 ((IntKind.u64.wrap z).tmod k)=r:=by
 obtain⟨a,b⟩:=xN z;have h2:(IntKind.u64.wrap z).tmod k=(IntKind.u64.wrap z)%k:=Int.tmod_eq_emod_of_nonneg a;have h3:0<=(IntKind.u64.wrap z)%k:=Int.emod_nonneg _ (by omega);have h4:(IntKind.u64.wrap z)%k<k:=Int.emod_lt_of_pos _ h0;refine⟨((IntKind.u64.wrap z)%k).toNat,by omega,?_⟩;rw[h2,nP h3 (by omega)];omega
theorem Gi(z:Int){k:Int}(h0:0<k)(h1:k<1000):∃m:Nat,1<=m/\(m:Int)<=k/\wrap64 (1+wrap64 ((IntKind.u64.wrap z).tmod k))=(m:Int):=by
 obtain⟨r,h2,h3⟩:=Fp z h0 h1;exact⟨r+1,by omega,by omega,by rw[h3,nP (by omega) (by omega)];omega⟩
end
section
open Go.Proofs.Tryz Go.RowKit
def Led(R:World->(Nat->Prop)->Prop)(F:Nat->Prop)(w w':World):Prop:=∃F',R w' F'/\Fr F w w'/\∀i,F' i->F i\/w.heap.size<=i
def CD(db:Nat)(r:RS)(m:Nat)(w:World)(F:Nat->Prop):Prop:=∃s c pv fv mb fh nf,DC w db s c pv fv mb fh nf/\cu s r/\(c<=m/\s.rd<=m/\s.wr<=m)/\∀i,F i↔FD db pv fv mb i
theorem wj(L:List (Nat×Nat)):∃k,Gap L k:=by
 have key:∀d k,L.length-k=d->k<=L.length->(∀j (hj:j<L.length),j<k->L[j].1=j+1)->∃k,Gap L k:=by
  intro d
  induction d with
  |zero=>exact λk hd hk ha=>⟨k,hk,ha,λq=>by omega⟩
  |succ d ih=>
   intro k hd hk ha;by_cases h:L[k].1=k+1
   .refine ih (k+1) (by omega) (by omega) (λj hj hjk=>?_)
    by_cases e:j=k
    .subst e;exact h
    .exact ha j hj (by omega)
   .exact⟨k,hk,ha,λ_=>h⟩
 exact key _ 0 rfl (by omega) (λj hj h=>by omega)
noncomputable def ah(L:List (Nat×Nat)):Nat:=Classical.choose (wj L)
theorem bS(L:List (Nat×Nat)):Gap L (ah L):=Classical.choose_spec (wj L)
def RS.has(r:RS)(id:Nat):Bool:=(atP r.L id).isSome
section
variable{w w':World}{db m:Nat}{r:RS}{F:Nat->Prop}
theorem CD.fr(h:CD db r m w F){G:Nat->Prop}(f:Fr G w w')(hG:∀i,F i->¬G i):CD db r m w' F:=by
 obtain⟨s,c,pv,fv,mb,fh,nf,h1,h2,h3,h4⟩:=h;exact⟨s,c,pv,fv,mb,fh,nf,h1.fr f (λi q=>hG i ((h4 i).2 q)),h2,h3,h4⟩
theorem CD.fr0(h:CD db r m w F)(f:Fr NoF w w'):CD db r m w' F:=h.fr f (λ_ _ q=>q)
theorem CD.lt(h:CD db r m w F):∀i,F i->i<w.heap.size:=by
 obtain⟨s,c,pv,fv,mb,fh,nf,h1,h2,h3,h4⟩:=h;exact λi q=>h1.lt i ((h4 i).1 q)
theorem CD.more(h:CD db r m w F){k:Nat}(hk:m<=k):CD db r k w F:=by
 obtain⟨s,c,pv,fv,mb,fh,nf,h1,h2,h3,h4⟩:=h;exact⟨s,c,pv,fv,mb,fh,nf,h1,h2,by omega,h4⟩
theorem CD.room(h:CD db r m w F):1<=r.room/\r.room<=65535:=by
 obtain⟨s,c,pv,fv,mb,fh,nf,h1,h2,h3,h4⟩:=h;rw[h2.room];exact h1.r1
theorem CD.ids(h:CD db r m w F):∀x∈r.L,1<=x.1/\x.1<=r.room:=by
 obtain⟨s,c,pv,fv,mb,fh,nf,h1,h2,h3,h4⟩:=h;intro x hx;rw[h2.L]at hx;obtain⟨i,_,hi,_,e⟩:=kn.1 hx;have:=h2.np;have:=h2.room;rw[e];exact⟨by show 1<=i+1;omega,by show i+1<=r.room;omega⟩
theorem CL(h:CD db r m w F)(hm:m<100000){id:Nat}(hu:aR id):Calls prog 82 #[.pointer (some ⟨db,0,none⟩),.int .u32 id] w λe w'=>e=.returned (.tuple #[.int .u64 (r.read id).1.1,.int .i64 (r.read id).1.2])/\Led (CD db (r.read id).2 (m+1)) F w w':=by
 obtain⟨s,c,pv,fv,mb,fh,nf,h1,h2,⟨b1,b2,b3⟩,h4⟩:=h;obtain⟨r1,r2⟩:=s.read_b id;obtain⟨q1,q2⟩:=h2.read id;rw[<-q1];refine(DI h1 hu (by omega)).mono ?_;rintro e w'⟨he,⟨c',hc,hd⟩,f⟩;exact⟨he,F,⟨_,c',pv,fv,mb,fh,nf,hd,q2,⟨by omega,by omega,by omega⟩,h4⟩,f.mono (λi q=>(h4 i).2 (q.elim .inl (λq=>.inr (.inl q)))),λi q=>.inl q⟩
theorem AW(h:CD db r m w F)(hm:m<100000){id:Nat}(hu:aR id)(v:Nat):Calls prog 111 #[.pointer (some ⟨db,0,none⟩),.int .u32 id,.int .u64 v] w λe w'=>e=.returned (.int .i64 (r.write id v).1)/\Led (CD db (r.write id v).2 (m+1)) F w w':=by
 obtain⟨s,c,pv,fv,mb,fh,nf,h1,h2,⟨b1,b2,b3⟩,h4⟩:=h;obtain⟨r1,r2⟩:=s.write_b id v;obtain⟨q1,q2⟩:=h2.write id v;rw[<-q1];refine(A8 h1 hu v (by omega)).mono ?_;rintro e w'⟨he,⟨c',hc,hd⟩,f⟩;exact⟨he,F,⟨_,c',pv,fv,mb,fh,nf,hd,q2,⟨by omega,by omega,by omega⟩,h4⟩,f.mono (λi q=>(h4 i).2 (by rcases q with q|q|q;exact .inl q;exact .inr (.inl q);exact .inr (.inr (.inl q)))),λi q=>.inl q⟩
theorem DF(h:CD db r m w F){id:Nat}(hu:aR id):Calls prog 78 #[.pointer (some ⟨db,0,none⟩),.int .u32 id] w λe w'=>e=.returned (.int .i64 (r.free id).1)/\Led (CD db (r.free id).2 m) F w w':=by
 obtain⟨s,c,pv,fv,mb,fh,nf,h1,h2,h3,h4⟩:=h
 cases hh:s.has id with
 |false=>
  rw[h2.free_no hh];refine(sG h1 hu hh).mono ?_;rintro e w'⟨he,rfl⟩;exact⟨he,F,⟨s,c,pv,fv,mb,fh,nf,h1,h2,h3,h4⟩,Fr.refl _ _,λi q=>.inl q⟩
 |true=>
  obtain⟨q1,q2⟩:=h2.free_yes hh;rw[q1];refine(rS h1 hu hh).mono ?_;rintro e w'⟨he,⟨fv',hd,ho⟩,f⟩;refine⟨he,FD db pv fv' mb,⟨_,c,pv,fv',mb,_,_,hd,q2,h3,λi=>Iff.rfl⟩,f.mono (λi q=>(h4 i).2 q),λi q=>?_⟩;rcases q with q|q|q|q
  .exact .inl ((h4 i).2 (.inl q))
  .exact .inl ((h4 i).2 (.inr (.inl q)))
  .exact .inl ((h4 i).2 (.inr (.inr (.inl q))))
  .exact(ho i q).imp (λq=>(h4 i).2 (.inr (.inr (.inr q)))) (λq=>q)
theorem Dl(h:CD db r m w F)(hf:r.room<=r.L.length):Calls prog 76 #[.pointer (some ⟨db,0,none⟩)] w λe w'=>e=.returned (.tuple #[.int .u32 0,.int .i64 2])/\Led (CD db r m) F w w':=by
 obtain⟨s,c,pv,fv,mb,fh,nf,h1,h2,h3,h4⟩:=h;have hf0:=hf;rw[h2.L,h2.room]at hf;have g1:=oG s.pg 0 s.np;have g2:(plL s.pg s.np).length<=s.np:=g1
 cases nf with
 |zero=>
  refine(mN h1 (by omega)).mono ?_;rintro e w'⟨he,d,rfl⟩;exact⟨he,F,⟨s,c,pv,fv,mb,fh,0,h1.fr0 ((Fr.refl NoF _).drewN d),h2,h3,h4⟩,(Fr.refl _ _).drewN d,λi q=>.inl q⟩
 |succ nf=>
  obtain⟨l1,l2,l3,l4⟩:=h1.least;have:=xu (pg:=s.pg) (i:=fh 0-1) (n:=s.np) (by omega) l3;have:=h2.np;omega
theorem yE(h:CD db r m w F)(hf:r.L.length<r.room):Calls prog 76 #[.pointer (some ⟨db,0,none⟩)] w λe w'=>e=.returned (.tuple #[.int .u32 (ah r.L+1:Nat),.int .i64 0])/\Led (CD db (r.ins (ah r.L)) m) F w w':=by
 obtain⟨s,c,pv,fv,mb,fh,nf,h1,h2,h3,h4⟩:=h;have hput:=h2.put (bS r.L) hf;rw[h2.L,h2.room]at hf;have hg:Gap (plL s.pg s.np) (ah r.L):=by have:=bS r.L;rw[h2.L]at this⊢;exact this
 cases nf with
 |zero=>
  have hall:∀i,0<=i->i<0+s.np->(s.pg i).1=true:=by
   intro i _ hi
   cases hb:(s.pg i).1 with
   |true=>rfl
   |false=>
    obtain⟨k,q,_⟩:=(h1.fm (i+1)).2 ⟨by omega,by omega,by rw[Nat.add_sub_cancel];exact hb⟩;omega
  have hlen:(plL s.pg s.np).length=s.np:=l8 hall
  have hk:ah r.L=s.np:=by
   obtain⟨q1,q2,q3,q4⟩:=kC hg;rcases Nat.lt_or_ge (ah r.L) s.np with q|q
   .have:=q3 q;rw[hall _ (by omega) (by omega)]at this;cases this
   .omega
  rw[hk]at hput⊢;have e:s.put s.np=s.grow:=by unfold DS.put DS.grow;rw[show max s.np (s.np+1)=s.np+1 from by omega]
  rw[e]at hput;refine(pD h1 (by omega)).mono ?_;rintro e' w'⟨he,⟨pv',hd,ho⟩,f⟩;refine⟨he,FD db pv' fv mb,⟨_,c,pv',fv,mb,_,_,hd,hput,h3,λi=>Iff.rfl⟩,f.mono (λi q=>(h4 i).2 (q.elim .inl (λq=>.inr (.inr (.inl q))))),λi q=>?_⟩;rcases q with q|q|q|q
  .exact .inl ((h4 i).2 (.inl q))
  .exact .inl ((h4 i).2 (.inr (.inl q)))
  .exact(ho i q).imp (λq=>(h4 i).2 (.inr (.inr (.inl q)))) id
  .exact .inl ((h4 i).2 (.inr (.inr (.inr q))))
 |succ nf=>
  obtain⟨l1,l2,l3,l4⟩:=h1.least
  have hk:ah r.L=fh 0-1:=by
   obtain⟨q1,q2,q3,q4⟩:=kC hg
   have hj1:ah r.L<=fh 0-1:=by
    rcases Nat.lt_or_ge (fh 0-1) (ah r.L)with q|q
    .have:=q2 _ q;rw[l3]at this;cases this
    .exact q
   have:=l4 (ah r.L+1) (by omega) (by omega) (by rw[Nat.add_sub_cancel];exact q3 (by omega));omega
  rw[hk]at hput⊢;have e:s.put (fh 0-1)=s.reuse (fh 0):=by unfold DS.put DS.reuse;rw[show max s.np (fh 0-1+1)=s.np from by omega]
  rw[e]at hput;refine(pG h1).mono ?_;rintro e' w'⟨he,⟨fv',hd,ho⟩,f⟩;refine⟨by rw[show fh 0-1+1=fh 0 from by omega];exact he,FD db pv fv' mb,⟨_,c,pv,fv',mb,_,_,hd,hput,h3,λi=>Iff.rfl⟩,f.mono (λi q=>(h4 i).2 q),λi q=>?_⟩;rcases q with q|q|q|q
  .exact .inl ((h4 i).2 (.inl q))
  .exact .inl ((h4 i).2 (.inr (.inl q)))
  .exact .inl ((h4 i).2 (.inr (.inr (.inl q))))
  .exact .inl ((h4 i).2 (.inr (.inr (.inr (ho i q)))))
theorem zV(h:CD db r m w F):Calls prog 40 #[.pointer (some ⟨db,0,none⟩)] w λe w'=>∃v,e=.returned v/\OwK .u32 w.heap.size 42 w' v (r.L.map (·.1))/\Fr NoF w w':=by
 obtain⟨s,c,pv,fv,mb,fh,nf,h1,h2,h3,h4⟩:=h;have:=zo h1;rw[Cy,<-h2.L]at this;exact this
theorem Ax(room:Nat)(w:World)(h1:1<=room)(h2:room<=65535):Calls prog 6 #[.int .i64 room] w λe w'=>∃db F,e=.returned (.tuple #[.pointer (some ⟨db,0,none⟩),.int .i64 0])/\CD db ⟨room,[],[],[],0,0,false,0⟩ 0 w' F/\(∀i,F i->w.heap.size<=i)/\Fr NoF w w':=by
 refine(tG room w h1 h2).mono ?_;rintro e w'⟨db,pv,fv,mb,he,hd,ho,f⟩;refine⟨db,FD db pv fv mb,he,⟨_,0,pv,fv,mb,_,0,hd,⟨rfl,rfl,rfl,rfl,rfl,λq=>(by cases q),λid _ _=>rfl,λid _ _=>rfl,by show 0<=room;omega⟩,⟨by omega,by show 0<=0;omega,by show 0<=0;omega⟩,λi=>Iff.rfl⟩,ho,f⟩
end
end
section
open Go.Maps Go.Proofs.Tryz Go.RowKit
section
variable{w w':World}{p:PP}{f:Nat->FrS}{pl:Nat->Option Int}{E I:Nat->Bool}{sc m:Nat}
theorem MP.put4(H:MP w p f pl E I sc m){k:Nat}(hk:k<p.n)(x:FrS)(hx:x.id<4294967296/\x.val<18446744073709551616/\x.pins<=m){w':World}(hw:w'=(((w.setCell ⟨p.fb,k*4,none⟩ (.int .u32 (x.id:Nat))).setCell ⟨p.fb,k*4+1,none⟩ (.int .u64 (x.val:Nat))).setCell ⟨p.fb,k*4+2,none⟩ (.int .i64 (x.pins:Nat))).setCell ⟨p.fb,k*4+3,none⟩ (.bool x.dirty)):
  MP w' p (upd f k x) pl E I sc m/\Fr (λi=>i=p.fb) w w':=by
 subst hw
 have g:Fr (λi=>i=p.fb) w ((((w.setCell ⟨p.fb,k*4,none⟩ (.int .u32 (x.id:Nat))).setCell ⟨p.fb,k*4+1,none⟩ (.int .u64 (x.val:Nat))).setCell ⟨p.fb,k*4+2,none⟩ (.int .i64 (x.pins:Nat))).setCell ⟨p.fb,k*4+3,none⟩ (.bool x.dirty)):=
  ((((Fr.refl (λi=>i=p.fb) w).setCell (p:=⟨p.fb,_,none⟩) (.inl rfl) _).setCell (p:=⟨p.fb,_,none⟩) (.inl rfl) _).setCell (p:=⟨p.fb,_,none⟩) (.inl rfl) _).setCell (p:=⟨p.fb,_,none⟩) (.inl rfl) _
 refine⟨H.frs (by rw[<-CV];exact(((H.fr.set _ _).set _ _).set _ _).set _ _) g (Nat.le_refl _) (λi=>?_),g⟩;by_cases e:i=k
 .subst e;rw[upd_same];exact hx
 .rw[ab _ _ e];exact H.bd.2 i
theorem MP.put1(H:MP w p f pl E I sc m){k j m':Nat}(hk:k<p.n)(x:FrS)(u:Value)(he:upd (frV f) (k*4+j) u=frV (upd f k x))(hm:m<=m')(hx:x.id<4294967296/\x.val<18446744073709551616/\x.pins<=m'):
  MP (w.setCell ⟨p.fb,k*4+j,none⟩ u) p (upd f k x) pl E I sc m'/\Fr (λi=>i=p.fb) w (w.setCell ⟨p.fb,k*4+j,none⟩ u):=by
 have g:Fr (λi=>i=p.fb) w (w.setCell ⟨p.fb,k*4+j,none⟩ u):=(Fr.refl (λi=>i=p.fb) w).setCell (p:=⟨p.fb,_,none⟩) (.inl rfl) _;refine⟨H.frs (by rw[<-he];exact H.fr.set _ _) g hm (λi=>?_),g⟩;by_cases e:i=k
 .subst e;rw[upd_same];exact hx
 .rw[ab _ _ e];have:=H.bd.2 i;exact⟨this.1,this.2.1,by omega⟩
theorem je(H:MP w p f pl E I sc m)(hm:m<900000){k:Nat}(hk:k<p.n)(hE:E k=false):Calls prog 102 #[p.ptr,.int .i64 k] w λe w'=>e=.returned (.tuple #[])/\
  MP w' p (upd f k zF) (bP pl (f k).id (some (-1))) (ao E k true) (ao I k false) sc (m+1)/\Fr p.own w w':=by
 have c2:w.cell? ⟨p.pb,2,none⟩=some (.slice (some ⟨p.fb,0,none⟩) p.n p.n):=H.ce 2 (by omega);have c3:w.cell? ⟨p.pb,3,none⟩=some (.map (some p.mb)):=H.ce 3 (by omega);obtain⟨cf,_,_,_⟩:=H.cf hk;have hb:=(H.bd.2 k).1;have lb:=H.hd.lt;have lf:=H.fr.lt;have hn:=H.hn;obtain⟨w1,r1,h1,g0⟩:=(H.fr0 ((Fr.refl NoF w).drew)).put hm hb (-1);have g1:Fr (λi=>i=p.mb) w w1:=((Fr.refl NoF w).drew.mono (λ_ q=>q.elim)).trans g0 (λi q=>.inl q);have d2:w1.cell? ⟨p.pb,2,none⟩=some (.slice (some ⟨p.fb,0,none⟩) p.n p.n):=h1.ce 2 (by omega);have lb1:=h1.hd.lt;have lf1:=h1.fr.lt;obtain⟨e0,e1,e2,e3⟩:=h1.cf hk;have z0:=h1.fr.frozen (k*4);have z1:=h1.fr.frozen (k*4+1);have z2:=h1.fr.frozen (k*4+2);have z3:=h1.fr.frozen (k*4+3)
 have KP:Hid (∀w2,w2=(((w1.setCell ⟨p.fb,k*4,none⟩ (.int .u32 (zF.id:Nat))).setCell ⟨p.fb,k*4+1,none⟩ (.int .u64 (zF.val:Nat))).setCell ⟨p.fb,k*4+2,none⟩ (.int .i64 (zF.pins:Nat))).setCell ⟨p.fb,k*4+3,none⟩ (.bool zF.dirty)->
  MP w2 p (upd f k zF) (bP pl (f k).id (some (-1))) E I sc (m+1)/\Fr p.own w w2):=λw2 hw=>by
   obtain⟨q1,q2⟩:=h1.put4 hk zF ⟨by decide,by decide,by show 0<=m+1;omega⟩ hw;exact⟨q1,(g1.mono (λi q=>.inr (.inr (.inl q)))).trans (q2.mono (λi q=>.inr (.inl q))) (λi q=>.inl q)⟩
 have R1:=Hd r1;have HE:=Hd hE;generalize(f k).id=id at*;generalize(f k).val=xv at*;generalize(f k).pins=xp at*;generalize(f k).dirty=xd at*;obtain⟨n,pb,db,fb,mb,rv,ev,eh,eL,iv,ih,iL⟩:=p;unfold PP.ptr
 dsimp only at*
 clear H hE h1 g0 g1 r1 hb;go_enter func102,ntmps102;have r1:=R1.out;go_wp2
 go_region
 all_goals
  clear r1
  go_wp2_with fail
  obtain⟨h2,g2⟩:=KP.out _ rfl;refine(qe h2 hk).mono ?_;rintro e w3⟨rfl,h3,g3⟩;have H3:=Hd h3;have G3:=Hd (g2.trans g3 (λi q=>.inl q));have lb3:=h3.hd.lt;clear h2 g2 h3 g3
  go_wp2_with fail
  refine(Ds H3.out hk HE.out).mono ?_;rintro e w4⟨rfl,h4,g4⟩;have H4:=Hd h4;have G4:=Hd (G3.out.trans g4 (λi q=>.inl q));clear h4 g4;go_wp2;go_returns;exact⟨rfl,H4.out,G4.out⟩
theorem Ar(H:MP w p f pl E I sc m){k:Nat}(hk:k<p.n)(hd:(f k).dirty=false):Calls prog 86 #[p.ptr,.int .i64 k] w λe w'=>e=.returned (.int .i64 0)/\w=w':=by
 have c2:w.cell? ⟨p.pb,2,none⟩=some (.slice (some ⟨p.fb,0,none⟩) p.n p.n):=H.ce 2 (by omega);obtain⟨c4,c5,c6,c7⟩:=H.cf hk;have hn:=H.hn;have lb:=H.hd.lt;have lf:=H.fr.lt;rw[hd]at c7;generalize(f k).id=xi at*;generalize(f k).val=xv at*;generalize(f k).pins=xp at*;obtain⟨n,pb,db,fb,mb,rv,ev,eh,eL,iv,ih,iL⟩:=p;unfold PP.ptr
 dsimp only at*
 clear H hd;go_enter func86,ntmps86;go_wp2;go_returns;exact⟨rfl,rfl⟩
theorem qr(H:MP w p f pl E I sc m){k:Nat}(hk:k<p.n)(hd:(f k).dirty=true){er:Nat}{R:World->Prop}(hc:∀w0,Fr NoF w w0->Calls prog 111 #[.pointer (some ⟨p.db,0,none⟩),.int .u32 (f k).id,.int .u64 (f k).val] w0 λe w'=>e=.returned (.int .i64 er)/\R w')
  {m2:Nat}(hR:∀w1,R w1->MP w1 p f pl E I sc m2):Calls prog 86 #[p.ptr,.int .i64 k] w λe w'=>e=.returned (.int .i64 er)/\∃w1,R w1/\(¬er=0->w'=w1)/\(er=0->w'=w1.setCell ⟨p.fb,k*4+3,none⟩ (.bool false)):=by
 have c0:w.cell? ⟨p.pb,0,none⟩=some (.pointer (some ⟨p.db,0,none⟩)):=H.ce 0 (by omega);have c2:w.cell? ⟨p.pb,2,none⟩=some (.slice (some ⟨p.fb,0,none⟩) p.n p.n):=H.ce 2 (by omega);obtain⟨c4,c5,c6,c7⟩:=H.cf hk;have hn:=H.hn;have lb:=H.hd.lt;have lf:=H.fr.lt;rw[hd]at c7;have HC:=Hd hc
 have KR:Hid (∀w1,R w1->w1.cell? ⟨p.fb,k*4+3,none⟩=some (.bool true)/\w1.frozen? ⟨p.fb,k*4+3,none⟩=false/\p.fb<w1.heap.size):=λw1 h1=>by
  have:=(hR w1 h1).cf hk;rw[hd]at this;exact⟨this.2.2.2,(hR w1 h1).fr.frozen _,(hR w1 h1).fr.lt⟩
 generalize(f k).id=xi at*;generalize(f k).val=xv at*;generalize(f k).pins=xp at*;obtain⟨n,pb,db,fb,mb,rv,ev,eh,eL,iv,ih,iL⟩:=p;unfold PP.ptr
 dsimp only at*
 clear H hd hc hR;go_enter func86,ntmps86
 go_wp2_with fail
 go_still_tail 12,(by kernel_rfl)
 go_wp2_with fail
 refine(HC.out _ ((Fr.refl NoF w).drew)).mono ?_;rintro e w1⟨rfl,h1⟩;obtain⟨x1,x2,x3⟩:=KR.out w1 h1;have H1:=Hd h1;clear h1;by_cases h0:er=0
 .subst h0
  go_wp2;go_returns;refine⟨rfl,w1,H1.out,?_⟩
  first|rfl|exact⟨λq=>(q rfl).elim,λ_=>rfl⟩
 .have hne:(((er:Nat):Int)==0)=false:=by simp<;>exact h0
  go_wp2;go_returns;exact⟨rfl,w1,H1.out,λ_=>rfl,λq=>(h0 q).elim⟩
end
end
section
open Go.Proofs.Tryz Go.RowKit
structure PT(τ:Type) where
 f:Nat->FrS
 pl:Nat->Option Int
 E:Nat->Bool
 I:Nat->Bool
 sc:Nat
 D:RS
 A:τ
structure PJ{τ:Type}(RR:World->τ->(Nat->Prop)->Prop)(w:World)(p:PP)(T:PT τ)(m:Nat)(FD FR:Nat->Prop):Prop where
 mp:MP w p T.f T.pl T.E T.I T.sc m
 cd:CD p.db T.D m w FD
 rr:RR w T.A FR
 s1:∀i,p.own i->¬FD i/\¬FR i
 s2:∀i,FD i->¬FR i
 t1:¬FD 0/\¬FR 0
def PI{τ:Type}(RR:World->τ->(Nat->Prop)->Prop)(p:PP)(T:PT τ)(m:Nat)(w:World)(F:Nat->Prop):Prop:=∃FD FR,PJ RR w p T m FD FR/\∀i,F i↔p.own i\/FD i\/FR i
theorem Led.refl{R:World->(Nat->Prop)->Prop}{F:Nat->Prop}{w:World}(h:R w F):Led R F w w:=⟨F,h,Fr.refl _ _,λi q=>.inl q⟩
theorem Led.trans{R':World->(Nat->Prop)->Prop}{F F1:Nat->Prop}{w w1 w2:World}(f:Fr F w w1)(hF:∀i,F1 i->F i\/w.heap.size<=i)(h:Led R' F1 w1 w2):Led R' F w w2:=by
 obtain⟨F2,h2,g,q⟩:=h;refine⟨F2,h2,f.trans g hF,λi k=>?_⟩;rcases q i k with q|q
 .exact hF i q
 .have:=f.size;exact .inr (by omega)
theorem Led.mono{R R':World->(Nat->Prop)->Prop}{F:Nat->Prop}{w w':World}(h:Led R F w w')(k:∀F',R w' F'->R' w' F'):Led R' F w w':=by
 obtain⟨F',h,f,q⟩:=h;exact⟨F',k F' h,f,q⟩
section
variable{τ:Type}{P:Adv τ}{RR:World->τ->(Nat->Prop)->Prop}{ok:Nat->τ->(Nat->Nat)->(Nat->Bool)->Prop}{p:PP}(S:aJ P RR p.pb p.rv p.n ok){w w':World}{T:PT τ}{m:Nat}{F:Nat->Prop}
theorem PI.me(H:PI RR p T m w F):MP w p T.f T.pl T.E T.I T.sc m:=by obtain⟨FD,FR,h,_⟩:=H;exact h.mp
theorem PI.own(H:PI RR p T m w F):∀i,p.own i->F i:=by obtain⟨FD,FR,h,hF⟩:=H;exact λi q=>(hF i).2 (.inl q)
theorem PI.set(H:PI RR p T m w F){f:Nat->FrS}{pl:Nat->Option Int}{E I:Nat->Bool}{sc k:Nat}(h:MP w' p f pl E I sc k)(g:Fr p.own w w')(hk:m<=k)(S:aJ P RR p.pb p.rv p.n ok):Led (PI RR p {T with f:=f,pl:=pl,E:=E,I:=I,sc:=sc} k) F w w':=by
 obtain⟨FD,FR,H,hF⟩:=H;exact⟨F,⟨FD,FR,⟨h,(H.cd.fr g (λi q k=>(H.s1 i k).1 q)).more hk,S.fr H.rr g (λi q k=>(H.s1 i k).2 q),H.s1,H.s2,H.t1⟩,hF⟩,g.mono (λi q=>(hF i).2 (.inl q)),λi q=>.inl q⟩
theorem PI.more(H:PI RR p T m w F){k:Nat}(hk:m<=k):PI RR p T k w F:=by
 obtain⟨FD,FR,H,hF⟩:=H;exact⟨FD,FR,⟨H.mp.more hk,H.cd.more hk,H.rr,H.s1,H.s2,H.t1⟩,hF⟩
include S
theorem PI.fro(H:PI RR p T m w F){G:Nat->Prop}(g:Fr G w w')(hG:∀i,F i->¬G i)(ht:¬G 0):PI RR p T m w' F:=by
 obtain⟨FD,FR,H,hF⟩:=H;exact⟨FD,FR,⟨H.mp.fro g (λi q=>hG i ((hF i).2 (.inl q))) ht,H.cd.fr g (λi q=>hG i ((hF i).2 (.inr (.inl q)))),S.fr H.rr g (λi q=>hG i ((hF i).2 (.inr (.inr q)))),H.s1,H.s2,H.t1⟩,hF⟩
theorem PI.fr0(H:PI RR p T m w F)(g:Fr NoF w w'):PI RR p T m w' F:=H.fro S g (λ_ _ q=>q) id
theorem PI.lt(H:PI RR p T m w F):∀i,F i->i<w.heap.size:=by
 obtain⟨FD,FR,H,hF⟩:=H;intro i q;rcases(hF i).1 q with q|q|q
 .exact H.mp.lt i q
 .exact H.cd.lt i q
 .exact S.lt H.rr i q
theorem PI.disk(H:PI RR p T m w F){g:FuncId}{args:Array Value}{Q:Ending->World->Prop}{D':RS}{k:Nat}(hk:m<=k)(hc:∀FD,CD p.db T.D m w FD->Calls prog g args w λe w'=>Q e w'/\Led (CD p.db D' k) FD w w'):
  Calls prog g args w λe w'=>Q e w'/\Led (PI RR p {T with D:=D'} k) F w w':=by
 obtain⟨FD,FR,H,hF⟩:=H;refine(hc FD H.cd).mono ?_;rintro e w'⟨he,FD',hd,f,hq⟩;refine⟨he,λi=>p.own i\/FD' i\/FR i,⟨FD',FR,⟨(H.mp.fro f (λi q=>(H.s1 i q).1) H.t1.1).more hk,hd,S.fr H.rr f (λi q k=>H.s2 i k q),λi q=>⟨λk=>?_,(H.s1 i q).2⟩,λi q k=>?_,λq=>?_,H.t1.2⟩,λi=>Iff.rfl⟩,f.mono (λi q=>(hF i).2 (.inr (.inl q))),?_⟩
 .rcases hq i k with k|k
  .exact(H.s1 i q).1 k
  .have:=H.mp.lt i q;omega
 .rcases hq i q with q|q
  .exact H.s2 i q k
  .have:=S.lt H.rr i k;omega
 .rcases hq _ q with q|q
  .exact H.t1.1 q
  .have:=H.mp.tab.lt;omega
 .rintro i(q|q|q)
  .exact .inl ((hF i).2 (.inl q))
  .exact(hq i q).imp (λq=>(hF i).2 (.inr (.inl q))) id
  .exact .inl ((hF i).2 (.inr (.inr q)))
theorem PI.told(H:PI RR p T m w F){g:FuncId}{args:Array Value}{Q:Ending->World->Prop}{s':τ}(hc:∀FR,RR w T.A FR->(∀i,FR i->F i)->¬FR p.pb->Calls prog g args w λe w'=>Q e w'/\Tld RR s' FR w w'):
  Calls prog g args w λe w'=>Q e w'/\Led (PI RR p {T with A:=s'} m) F w w':=by
 obtain⟨FD,FR,H,hF⟩:=H;refine(hc FR H.rr (λi q=>(hF i).2 (.inr (.inr q))) (H.s1 _ (.inl rfl)).2).mono ?_;rintro e w'⟨he,FR',hd,f,hq⟩;refine⟨he,λi=>p.own i\/FD i\/FR' i,⟨FD,FR',⟨H.mp.fro f (λi q=>(H.s1 i q).2) H.t1.2,H.cd.fr f (λi q=>H.s2 i q),hd,λi q=>⟨(H.s1 i q).1,λk=>?_⟩,λi q k=>?_,H.t1.1,λq=>?_⟩,λi=>Iff.rfl⟩,f.mono (λi q=>(hF i).2 (.inr (.inr q))),?_⟩
 .rcases hq i k with k|k
  .exact(H.s1 i q).2 k
  .have:=H.mp.lt i q;omega
 .rcases hq i k with k|k
  .exact H.s2 i q k
  .have:=H.cd.lt i q;omega
 .rcases hq _ q with q|q
  .exact H.t1.2 q
  .have:=H.mp.tab.lt;omega
 .rintro i(q|q|q)
  .exact .inl ((hF i).2 (.inl q))
  .exact .inl ((hF i).2 (.inr (.inl q)))
  .exact(hq i q).imp (λq=>(hF i).2 (.inr (.inr q))) id
theorem PI.tell1(H:PI RR p T m w F){g:FuncId}{c1:Value}{s':τ}(ho:Own g)(hc:∀FR,RR w T.A FR->(∀i,FR i->F i)->Calls prog g #[p.rv,c1] w λe w'=>e=.returned (.tuple #[])/\Tld RR s' FR w w'):
  Calls prog 84 #[p.ptr,.func (.func g) #[] #[c1]] w λe w'=>e=.returned (.tuple #[])/\Led (PI RR p {T with A:=s'} m) F w w':=
 H.told S (λFR hr hF _=>zS ho (H.me.ce 1 (by omega)) H.me.hd.lt (hc FR hr hF))
theorem PI.tell2(H:PI RR p T m w F){g:FuncId}{c1 c2:Value}{s':τ}(ho:Own g)(hc:∀FR,RR w T.A FR->(∀i,FR i->F i)->Calls prog g #[p.rv,c1,c2] w λe w'=>e=.returned (.tuple #[])/\Tld RR s' FR w w'):
  Calls prog 84 #[p.ptr,.func (.func g) #[] #[c1,c2]] w λe w'=>e=.returned (.tuple #[])/\Led (PI RR p {T with A:=s'} m) F w w':=
 H.told S (λFR hr hF _=>BP ho (H.me.ce 1 (by omega)) H.me.hd.lt (hc FR hr hF))
end
theorem bG{f:FuncId}{fn:Func}{c:Code}(hf:prog.funcs[f]?=some fn)(hname:(fn.name== "runtime.NumGoroutine")=false)(hb:fn.body=some c):Own f:=λargs w=>by
 have h1:fn.name≠ "runtime.NumGoroutine" :=by simpa using hname
 simp[callFunc,hf,h1,hb]
theorem zY:Own 98:=bG func98 (by kernel_rfl) rfl
theorem Ek:Own 100:=bG func100 (by kernel_rfl) rfl
theorem EW:Own 101:=bG func101 (by kernel_rfl) rfl
theorem ER:Own 124:=bG func124 (by kernel_rfl) rfl
theorem Fj:Own 105:=bG func105 (by kernel_rfl) rfl
theorem Es:Own 106:=bG func106 (by kernel_rfl) rfl
theorem Fo:Own 107:=bG func107 (by kernel_rfl) rfl
theorem EO:Own 85:=bG func85 (by kernel_rfl) rfl
theorem Em:Own 109:=bG func109 (by kernel_rfl) rfl
end
end Go.Proofs.YtkjhnllcphidpaaGreatDoor
