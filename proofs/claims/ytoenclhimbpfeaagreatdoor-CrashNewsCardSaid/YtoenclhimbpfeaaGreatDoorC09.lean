/- Part 9. -/
import Derived.Test.YtoenclhimbpfeaaGreatDoorC05
import Derived.LaidEqlPtr
namespace Go.Proofs.YtoenclhimbpfeaaGreatDoor
set_option linter.all false
set_option maxHeartbeats 16000000
set_option maxRecDepth 100000
section
open Go.RowKit
def plC(l:List (Nat×Nat)):List Value:=l.flatMap fun p=>[.int .u32 (p.1:Nat),.int .u64 (p.2:Nat)]
theorem plC_len(l:List (Nat×Nat)):(plC l).length=l.length*2:=by
 induction l with
 |nil=>rfl
 |cons a l ih=>simp only[plC,List.flatMap_cons,List.length_append,List.length_cons,List.length_nil];unfold plC at ih;omega
theorem plC_app(a b:List (Nat×Nat)):plC (a++b)=plC a++plC b:=by unfold plC;rw[List.flatMap_append]
theorem plC_drop(l:List (Nat×Nat))(k:Nat):(plC l).drop (k*2)=plC (l.drop k):=by
 rcases Nat.le_total k l.length with h|h
 .have e:plC l=plC (l.take k)++plC (l.drop k):=by rw[<-plC_app,List.take_append_drop]
  rw[e,List.drop_left' (by rw[plC_len,List.length_take];omega)]
 .rw[List.drop_of_length_le (by rw[plC_len];omega),List.drop_of_length_le h];rfl
def SlP(w:World)(v:Value)(l:List (Nat×Nat)):Prop:=SlC w 2 v l.length (plC l)
def atP(l:List (Nat×Nat))(id:Nat):Option Nat:=l.findIdx? (fun p=>p.1==id)
section
variable{w w':World}{v:Value}{l:List (Nat×Nat)}
theorem SlP.fr(h:SlP w v l){G:Nat->Prop}(f:Fr G w w')(hG:∀b,v.ownBlock=some b->¬G b):SlP w' v l:=SlC.fr h f hG
theorem atP_none{l:List (Nat×Nat)}{id:Nat}(h:∀k (hk:k<l.length),¬l[k].1=id):atP l id=none:=by
 unfold atP;rw[List.findIdx?_eq_none_iff];intro p hp;obtain⟨k,hk,rfl⟩:=List.mem_iff_getElem.1 hp;simpa using h k hk
theorem atP_some{l:List (Nat×Nat)}{id k:Nat}(hk:k<l.length)(h:l[k].1=id)(hn:∀j (hj:j<k),¬(l[j]'(by omega)).1=id):atP l id=some k:=by
 unfold atP;rw[List.findIdx?_eq_some_iff_getElem];exact⟨hk,by simpa using h,fun j hj=>by simpa using hn j hj⟩
end
theorem atP_is{l:List (Nat×Nat)}{id k:Nat}(h:atP l id=some k):∃hk:k<l.length,l[k].1=id:=by
 unfold atP at h;rw[List.findIdx?_eq_some_iff_getElem]at h;obtain⟨hk,h1,_⟩:=h;exact⟨hk,by simpa using h1⟩
def isU64(x:Nat):Prop:=x<18446744073709551616
def failsP(l:List (Nat×Nat))(id:Nat):List (Nat×Nat)×Bool:=
 match atP l id with
 |none=>(l,false)
 |some k=>if(l.getD k (0,0)).2=0 then(l,false)else(l.set k ((l.getD k (0,0)).1,(l.getD k (0,0)).2-1),true)
structure RS where
 room:Nat
 L:List (Nat×Nat)
 nr:List (Nat×Nat)
 ns:List (Nat×Nat)
 rd:Nat
 wr:Nat
 stops:Bool
 left:Int
def rH(s:RS)(lv nv sv:Value):Nat->Value
 |0=>.int .i64 s.room
 |1=>lv
 |2=>nv
 |3=>sv
 |4=>.int .i64 s.rd
 |5=>.int .i64 s.wr
 |6=>.bool s.stops
 |7=>.int .i64 s.left
 |_=>.int .i64 0
structure RCd(w:World)(b:Nat)(s:RS)(lv nv sv:Value):Prop where
 hd:Blk w b 8 (rH s lv nv sv)
 hl:SlP w lv s.L
 hn:SlP w nv s.nr
 hs:SlP w sv s.ns
 n1:∀i,lv.ownBlock=some i->¬i=b
 n2:∀i,nv.ownBlock=some i->¬i=b
 n3:∀i,sv.ownBlock=some i->¬i=b
 b1:s.L.length<100000
 b2:s.nr.length<100000
 b3:s.ns.length<100000
 b4:s.rd<1000000000∧s.wr<1000000000
 u1:∀p∈s.L,isU64 p.2
 u2:∀p∈s.nr,isU64 p.2
 u3:∀p∈s.ns,isU64 p.2
def FR(b:Nat)(lv nv sv:Value):Nat->Prop:=fun i=>i=b∨lv.ownBlock=some i∨nv.ownBlock=some i∨sv.ownBlock=some i
theorem FR.l{b m:Nat}{lv lv' nv sv:Value}(h:∀i,lv'.ownBlock=some i->lv.ownBlock=some i∨m<=i):∀i,FR b lv' nv sv i->FR b lv nv sv i∨m<=i:=by
 rintro i(q|q|q|q)
 .exact .inl (.inl q)
 .exact(h i q).imp (fun q=>.inr (.inl q)) id
 .exact .inl (.inr (.inr (.inl q)))
 .exact .inl (.inr (.inr (.inr q)))
theorem FR.n{b m:Nat}{lv nv nv' sv:Value}(h:∀i,nv'.ownBlock=some i->nv.ownBlock=some i∨m<=i):∀i,FR b lv nv' sv i->FR b lv nv sv i∨m<=i:=by
 rintro i(q|q|q|q)
 .exact .inl (.inl q)
 .exact .inl (.inr (.inl q))
 .exact(h i q).imp (fun q=>.inr (.inr (.inl q))) id
 .exact .inl (.inr (.inr (.inr q)))
theorem FR.s{b m:Nat}{lv nv sv sv':Value}(h:∀i,sv'.ownBlock=some i->sv.ownBlock=some i∨m<=i):∀i,FR b lv nv sv' i->FR b lv nv sv i∨m<=i:=by
 rintro i(q|q|q|q)
 .exact .inl (.inl q)
 .exact .inl (.inr (.inl q))
 .exact .inl (.inr (.inr (.inl q)))
 .exact(h i q).imp (fun q=>.inr (.inr (.inr q))) id
def RS.stopped(s:RS):Bool:=s.stops&&decide (s.left<=0)
section
variable{w w0 w':World}{b:Nat}{s:RS}{lv nv sv:Value}
theorem RCd.fr(h:RCd w b s lv nv sv){G:Nat->Prop}(f:Fr G w w')(h0:¬G b)(h1:∀i,lv.ownBlock=some i∨nv.ownBlock=some i∨sv.ownBlock=some i->¬G i):RCd w' b s lv nv sv:=
 ⟨h.hd.fr f h0,h.hl.fr f (fun i q=>h1 i (.inl q)),h.hn.fr f (fun i q=>h1 i (.inr (.inl q))),h.hs.fr f (fun i q=>h1 i (.inr (.inr q))),h.n1,h.n2,h.n3,h.b1,h.b2,h.b3,h.b4,h.u1,h.u2,h.u3⟩
end
def RS.read(s:RS)(id:Nat):(Nat×Nat)×RS:=
 match atP s.L id with
 |none=>((0,3),s)
 |some k=>if s.stopped=true then((0,7),s)else if(failsP s.nr id).2=true then((0,7),{s with nr:=(failsP s.nr id).1})else(((s.L.getD k (0,0)).2,0),{s with rd:=s.rd+1,left:=s.left-1})
def RS.write(s:RS)(id v:Nat):Nat×RS:=
 match atP s.L id with
 |none=>(3,s)
 |some k=>if s.stopped=true then(7,s)else if(failsP s.ns id).2=true then(7,{s with ns:=(failsP s.ns id).1})else(0,{s with L:=s.L.set k ((s.L.getD k (0,0)).1,v),wr:=s.wr+1,left:=s.left-1})
def RS.free(s:RS)(id:Nat):Nat×RS:=
 match atP s.L id with
 |none=>(3,s)
 |some k=>(0,{s with L:=s.L.take k++s.L.drop (k+1)})
section
variable{w w0 w':World}{b:Nat}{s:RS}{lv nv sv v:Value}{l:List (Nat×Nat)}
theorem SlP.last{g off c:Nat}(h:SlP w (.slice (some ⟨g,off,none⟩) l.length c) l){k:Nat}(hk:k<=l.length)(hc:k<c):SlC w 2 (.slice (some ⟨g,off+k*2,none⟩) (l.length-k) (c-k)) (l.length-k) (plC (l.drop k)):=by
 obtain⟨b',o',e,h1⟩:=SlC.cut (lo:=k) (hi:=l.length) h hk (Nat.le_refl _) rfl hc;simp only[Option.some.injEq,Addr.mk.injEq]at e;obtain⟨rfl,rfl,_⟩:=e;rw[plC_drop,List.take_of_length_le (by rw[plC_len,List.length_drop];omega)]at h1;exact h1
end
def RS.ins(s:RS)(k:Nat):RS:={s with L:=s.L.take k++[(k+1,0)]++s.L.drop k}
structure Gap(L:List (Nat×Nat))(k:Nat):Prop where
 le:k<=L.length
 all:∀j (hj:j<L.length),j<k->L[j].1=j+1
 not:∀hk:k<L.length,¬L[k].1=k+1
end
section
open Go.Maps Go.RowKit
def plR(pg:Nat->Bool×Nat)(a n:Nat):List (Nat×Nat):=((List.range' a n).filter fun i=>(pg i).1).map fun i=>(i+1,(pg i).2)
def plL(pg:Nat->Bool×Nat)(n:Nat):List (Nat×Nat):=plR pg 0 n
theorem plR_add(pg:Nat->Bool×Nat)(a m n:Nat):plR pg a (m+n)=plR pg a m++plR pg (a+m) n:=by
 unfold plR;rw[<-List.range'_append_1,List.filter_append,List.map_append]
theorem plR_one(pg:Nat->Bool×Nat)(a:Nat):plR pg a 1=if(pg a).1=true then[(a+1,(pg a).2)]else[]:=by
 unfold plR;by_cases h:(pg a).1=true<;>simp[h]
theorem plR_congr{pg pg':Nat->Bool×Nat}{a n:Nat}(h:∀i,a<=i->i<a+n->pg i=pg' i):plR pg a n=plR pg' a n:=by
 induction n generalizing a with
 |zero=>rfl
 |succ n ih=>
  have e1:=plR_add pg a 1 n;have e2:=plR_add pg' a 1 n;rw[Nat.add_comm n 1,e1,e2,plR_one,plR_one,h a (by omega) (by omega),ih (a:=a+1) (fun i h1 h2=>h i (by omega) (by omega))]
theorem plR_mem{pg:Nat->Bool×Nat}{a n:Nat}{p:Nat×Nat}:p∈plR pg a n↔∃i,a<=i∧i<a+n∧(pg i).1=true∧p=(i+1,(pg i).2):=by
 unfold plR;simp only[List.mem_map,List.mem_filter,List.mem_range'_1];constructor
 .rintro⟨i,⟨⟨h1,h2⟩,h3⟩,rfl⟩;exact⟨i,h1,h2,h3,rfl⟩
 .rintro⟨i,h1,h2,h3,rfl⟩;exact⟨i,⟨⟨h1,h2⟩,h3⟩,rfl⟩
theorem plR_len(pg:Nat->Bool×Nat)(a n:Nat):(plR pg a n).length<=n:=by
 unfold plR;rw[List.length_map];exact Nat.le_trans (List.length_filter_le _ _) (by rw[List.length_range'];exact Nat.le_refl _)
theorem plR_full{pg:Nat->Bool×Nat}{a n:Nat}(h:∀i,a<=i->i<a+n->(pg i).1=true):(plR pg a n).length=n:=by
 unfold plR;rw[List.length_map,List.filter_eq_self.2 (fun i hi=>by rw[List.mem_range'_1]at hi;exact h i hi.1 hi.2),List.length_range']
theorem plL_split(pg:Nat->Bool×Nat){i n:Nat}(h:i<n):plL pg n=plL pg i++(plR pg i 1++plR pg (i+1) (n-i-1)):=by
 unfold plL;have e:=plR_add pg 0 i (1+(n-i-1));rw[show i+(1+(n-i-1))=n from by omega,Nat.zero_add,plR_add]at e;exact e
theorem plL_short{pg:Nat->Bool×Nat}{i n:Nat}(h:i<n)(hf:(pg i).1=false):(plL pg n).length<n:=by
 rw[plL_split pg h,plR_one,hf];have h1:=plR_len pg 0 i;have h2:=plR_len pg (i+1) (n-i-1);unfold plL;simp only[List.length_append];simp;omega
theorem ids_plR(pg:Nat->Bool×Nat)(n:Nat):idsL pg n=(plL pg n).map (·.1):=by
 unfold idsL plL plR;rw[List.map_map,List.range_eq_range'];rfl
theorem atP_split{A B:List (Nat×Nat)}{id v:Nat}(h:∀p∈A,¬p.1=id):atP (A++(id,v)::B) id=some A.length:=by
 refine atP_some (k:=A.length) (by simp) (by simp) (fun j hj=>?_);rw[List.getElem_append_left hj];exact h _ (List.getElem_mem hj)
theorem atP_no{L:List (Nat×Nat)}{id:Nat}(h:∀p∈L,¬p.1=id):atP L id=none:=atP_none (fun k hk=>h _ (List.getElem_mem hk))
theorem plL_at{pg:Nat->Bool×Nat}{n id:Nat}(h1:1<=id)(h2:id<=n)(h3:(pg (id-1)).1=true):plL pg n=plL pg (id-1)++(id,(pg (id-1)).2)::plR pg id (n-id)∧atP (plL pg n) id=some (plL pg (id-1)).length:=by
 have e:plL pg n=plL pg (id-1)++(id,(pg (id-1)).2)::plR pg id (n-id):=by
  rw[plL_split pg (i:=id-1) (by omega),plR_one,if_pos h3,show id-1+1=id from by omega,show n-(id-1)-1=n-id from by omega];rfl
 refine⟨e,?_⟩;rw[e];refine atP_split (fun p hp=>?_);unfold plL at hp;obtain⟨i,_,q,_,rfl⟩:=plR_mem.1 hp
 show¬i+1=id
 omega
theorem plL_none{pg:Nat->Bool×Nat}{n id:Nat}(h:¬(1<=id∧id<=n∧(pg (id-1)).1=true)):atP (plL pg n) id=none:=by
 refine atP_no (fun p hp q=>?_);unfold plL at hp;obtain⟨i,_,h2,h3,rfl⟩:=plR_mem.1 hp;have q:i+1=id:=q;subst q;exact h ⟨by omega,by omega,by rw[Nat.add_sub_cancel];exact h3⟩
theorem plL_upd{pg:Nat->Bool×Nat}{n id:Nat}(h1:1<=id)(h2:id<=n)(b:Bool)(v:Nat):plL (upd pg (id-1) (b,v)) n=plL pg (id-1)++((if b=true then[(id,v)]else[])++plR pg id (n-id)):=by
 rw[plL_split _ (i:=id-1) (by omega),plR_one,upd_same,show id-1+1=id from by omega,show n-(id-1)-1=n-id from by omega];have e1:plL (upd pg (id-1) (b,v)) (id-1)=plL pg (id-1):=plR_congr (fun i _ q=>upd_other _ _ (by omega));have e2:plR (upd pg (id-1) (b,v)) id (n-id)=plR pg id (n-id):=plR_congr (fun i q _=>upd_other _ _ (by omega));rw[e1,e2]
theorem plL_set{pg:Nat->Bool×Nat}{n id:Nat}(h1:1<=id)(h2:id<=n)(h3:(pg (id-1)).1=true)(v:Nat):(plL pg n).set (plL pg (id-1)).length (((plL pg n).getD (plL pg (id-1)).length (0,0)).1,v)=plL (upd pg (id-1) ((pg (id-1)).1,v)) n∧(plL pg n).getD (plL pg (id-1)).length (0,0)=(id,(pg (id-1)).2):=by
 have e:=(plL_at h1 h2 h3).1;have g:(plL pg n).getD (plL pg (id-1)).length (0,0)=(id,(pg (id-1)).2):=by rw[e];simp
 refine⟨?_,g⟩;rw[g,h3,plL_upd h1 h2,if_pos rfl]
 conv=>lhs;rw[e]
 simp
theorem plL_cut{pg:Nat->Bool×Nat}{n id:Nat}(h1:1<=id)(h2:id<=n)(h3:(pg (id-1)).1=true):(plL pg n).take (plL pg (id-1)).length++(plL pg n).drop ((plL pg (id-1)).length+1)=plL (upd pg (id-1) (false,0)) n:=by
 have e:=(plL_at h1 h2 h3).1;rw[plL_upd h1 h2,if_neg (by simp),e];simp
theorem plL_gap{pg:Nat->Bool×Nat}{n k:Nat}(h:Gap (plL pg n) k):k<=n∧(∀j,j<k->(pg j).1=true)∧(k<n->(pg k).1=false)∧(plL pg n).take k++[(k+1,0)]++(plL pg n).drop k=plL (upd pg k (true,0)) (max n (k+1)):=by
 have hall:∀j,j<k->j<n∧(pg j).1=true:=by
  intro j hj;have hl:j<(plL pg n).length:=by have:=h.le;omega
  have hm:=List.getElem_mem hl;have ha:=h.all j hl hj;unfold plL at hm;obtain⟨i,_,q2,q3,q4⟩:=plR_mem.1 hm
  have e:i=j:=by
   have:((plL pg n)[j]).1=i+1:=by unfold plL;rw[q4]
   omega
  subst e;exact⟨by omega,q3⟩
 have hkn:k<=n:=by
  rcases Nat.eq_zero_or_pos k with q|q
  .omega
  .have:=(hall (k-1) (by omega)).1;omega
 have hfull:(plL pg k).length=k:=plR_full (fun i _ q=>(hall i (by omega)).2)
 have esp:plL pg n=plL pg k++plR pg k (n-k):=by
  have:=plR_add pg 0 k (n-k);rw[show k+(n-k)=n from by omega,Nat.zero_add]at this;exact this
 have hnot:k<n->(pg k).1=false:=by
  intro q
  cases hb:(pg k).1 with
  |false=>rfl
  |true=>
   have e2:=plR_add pg k 1 (n-k-1);rw[show 1+(n-k-1)=n-k from by omega,plR_one,if_pos hb]at e2;have hl:k<(plL pg n).length:=by rw[esp,e2,List.length_append,hfull];simp
   have:=h.not hl;refine(this ?_).elim
   have e3:(plL pg n)[k]?=some (k+1,(pg k).2):=by
    rw[esp,e2,List.getElem?_append_right (by omega),hfull];simp
   rw[List.getElem?_eq_getElem hl]at e3;rw[Option.some.inj e3]
 refine⟨hkn,fun j q=>(hall j q).2,hnot,?_⟩;have et:(plL pg n).take k=plL pg k:=by rw[esp];exact List.take_left' hfull
 have ed:(plL pg n).drop k=plR pg k (n-k):=by rw[esp];exact List.drop_left' hfull
 rw[et,ed];have ek:plL (upd pg k (true,0)) k=plL pg k:=plR_congr (fun i _ q=>upd_other _ _ (by omega));by_cases q:k<n
 .rw[show max n (k+1)=n from by omega,plL_split _ q,plR_one,upd_same,if_pos rfl,ek]
  have e2:=plR_add pg k 1 (n-k-1);rw[show 1+(n-k-1)=n-k from by omega,plR_one,if_neg (by rw[hnot q];simp)]at e2;have e4:plR (upd pg k (true,0)) (k+1) (n-k-1)=plR pg (k+1) (n-k-1):=plR_congr (fun i q _=>upd_other _ _ (by omega));rw[e2,e4];simp
 .obtain rfl:k=n:=by omega
  rw[show max k (k+1)=k+1 from by omega,plL_split (upd pg k (true,0)) (i:=k) (n:=k+1) (by omega),plR_one,upd_same,if_pos rfl,ek,show k+1-k-1=0 from by omega,Nat.sub_self];simp[plR]
def valP(l:List (Nat×Nat))(id:Nat):Nat:=match atP l id with
 |none=>0
 |some k=>(l.getD k (0,0)).2
theorem atP_of{l:List (Nat×Nat)}{id:Nat}:(atP l id=none∧∀p∈l,¬p.1=id)∨∃A v B,l=A++(id,v)::B∧(∀p∈A,¬p.1=id)∧atP l id=some A.length∧valP l id=v:=by
 induction l with
 |nil=>exact .inl ⟨rfl,fun p hp=>(by cases hp)⟩
 |cons a l ih=>
  by_cases e:a.1=id
  .obtain⟨a1,a2⟩:=a
   have e:a1=id:=e;subst e;have h1:atP ((a1,a2)::l) a1=some 0:=atP_split (A:=[]) (fun p hp=>(by cases hp));exact .inr ⟨[],a2,l,rfl,fun p hp=>(by cases hp),h1,by unfold valP;rw[h1];rfl⟩
  .rcases ih with⟨h1,h2⟩|⟨A,v,B,rfl,h2,h3,h4⟩
   .have h5:∀p∈a::l,¬p.1=id:=fun p hp=>by
     rcases List.mem_cons.1 hp with rfl|q
     .exact e
     .exact h2 p q
    exact .inl ⟨atP_no h5,h5⟩
   .have h5:∀p∈a::A,¬p.1=id:=fun p hp=>by
     rcases List.mem_cons.1 hp with rfl|q
     .exact e
     .exact h2 p q
    have h6:atP (a::(A++(id,v)::B)) id=some (a::A).length:=atP_split h5;exact .inr ⟨a::A,v,B,rfl,h5,h6,by unfold valP;rw[h6];simp⟩
theorem valP_split{A B:List (Nat×Nat)}{id v:Nat}(h:∀p∈A,¬p.1=id):valP (A++(id,v)::B) id=v:=by
 unfold valP;rw[atP_split h];simp
theorem valP_other{A B:List (Nat×Nat)}{id v v' x:Nat}(hx:¬x=id):valP (A++(id,v)::B) x=valP (A++(id,v')::B) x:=by
 induction A with
 |nil=>
  rcases atP_of (l:=B) (id:=x)with⟨h1,h2⟩|⟨A',u,B',rfl,h2,h3,h4⟩
  .have g:∀v,valP ([]++(id,v)::B) x=0:=fun v=>by
    unfold valP
    rw[atP_no (fun p hp=>by
     rcases List.mem_cons.1 hp with rfl|q
     .exact fun q=>hx q.symm
     .exact h2 p q)]
   rw[g,g]
  .have g:∀v,valP ([]++(id,v)::(A'++(x,u)::B')) x=u:=fun v=>valP_split (A:=(id,v)::A') (fun p hp=>by
     rcases List.mem_cons.1 hp with rfl|q
     .exact fun q=>hx q.symm
     .exact h2 p q)
   rw[g,g]
 |cons a A ih=>
  by_cases e:a.1=x
  .obtain⟨a1,a2⟩:=a
   have e:a1=x:=e;subst e;have g:∀l,valP ((a1,a2)::l) a1=a2:=fun l=>valP_split (A:=[]) (fun p hp=>(by cases hp))
   exact(g _).trans (g _).symm
  .have g:∀l:List (Nat×Nat),valP (a::l) x=valP l x:=fun l=>by
    rcases atP_of (l:=l) (id:=x)with⟨h1,h2⟩|⟨A',u,B',rfl,h2,h3,h4⟩
    .unfold valP
     rw[h1,atP_no (fun p hp=>by
      rcases List.mem_cons.1 hp with rfl|q
      .exact e
      .exact h2 p q)]
    .rw[h4]
     exact valP_split (A:=a::A') (fun p hp=>by
      rcases List.mem_cons.1 hp with rfl|q
      .exact e
      .exact h2 p q)
   show valP (a::(A++(id,v)::B)) x=valP (a::(A++(id,v')::B)) x
   rw[g,g];exact ih
theorem failsP_is(l:List (Nat×Nat))(id:Nat):(failsP l id).2=decide (¬valP l id=0)∧∀x,valP (failsP l id).1 x=if x=id then valP l id-1 else valP l x:=by
 rcases atP_of (l:=l) (id:=id)with⟨h1,h2⟩|⟨A,v,B,rfl,h2,h3,h4⟩
 .have hv:valP l id=0:=by unfold valP;rw[h1]
  have e:failsP l id=(l,false):=by unfold failsP;rw[h1]
  rw[e,hv];refine⟨by simp,fun x=>?_⟩
  split
  .rename_i q;rw[q,hv]
  .rfl
 .have g:(A++(id,v)::B).getD A.length (0,0)=(id,v):=by simp
  rw[h4];by_cases hz:v=0
  .subst hz
   have e:failsP (A++(id,0)::B) id=(A++(id,0)::B,false):=by unfold failsP;rw[h3];simp only[g,if_true]
   rw[e];refine⟨by simp,fun x=>?_⟩
   split
   .rename_i q;rw[q,h4]
   .rfl
  .have e:failsP (A++(id,v)::B) id=(A++(id,v-1)::B,true):=by
    unfold failsP;rw[h3];simp only[g,hz,if_false];simp
   rw[e];refine⟨by simp[hz],fun x=>?_⟩
   split
   .rename_i q;rw[q];exact valP_split h2
   .rename_i q;exact valP_other q
structure DRel(s:DS)(r:RS):Prop where
 room:r.room=s.room
 L:r.L=plL s.pg s.np
 rd:r.rd=s.rd
 wr:r.wr=s.wr
 st:r.stops=s.stops
 le:s.stops=true->r.left=(s.left:Int)
 nr:∀id,1<=id->id<=s.room->valP r.nr id=s.fl (id,false)
 ns:∀id,1<=id->id<=s.room->valP r.ns id=s.fl (id,true)
 np:s.np<=s.room
section
variable{s:DS}{r:RS}
theorem DRel.stopped(h:DRel s r):r.stopped=decide (s.stops=true∧s.left=0):=by
 unfold RS.stopped;rw[h.st]
 cases hs:s.stops with
 |false=>simp
 |true=>rw[h.le hs];simp<;>omega
theorem DRel.has(h:DRel s r)(id:Nat):(s.has id=true∧1<=id∧id<=s.np∧(s.pg (id-1)).1=true∧atP r.L id=some (plL s.pg (id-1)).length)∨(s.has id=false∧atP r.L id=none):=by
 rw[h.L];by_cases q:1<=id∧id<=s.np∧(s.pg (id-1)).1=true
 .exact .inl ⟨by unfold DS.has;simp[q.1,q.2.1,q.2.2],q.1,q.2.1,q.2.2,(plL_at q.1 q.2.1 q.2.2).2⟩
 .refine .inr ⟨?_,plL_none q⟩
  unfold DS.has
  cases hb:(s.pg (id-1)).1 with
  |false=>simp
  |true=>
   have:¬(1<=id∧id<=s.np):=fun k=>q ⟨k.1,k.2,hb⟩
   simp[this]
theorem DRel.read(h:DRel s r)(id:Nat):(s.read id).1=(r.read id).1∧DRel (s.read id).2 (r.read id).2:=by
 rcases h.has id with⟨hh,h1,h2,h3,hat⟩|⟨hh,hat⟩
 .have hst:=h.stopped
  by_cases q:s.stops=true∧s.left=0
  .have e1:s.read id=((0,7),s):=by unfold DS.read DS.att;rw[hh];simp[q.1,q.2]
   have e2:r.read id=((0,7),r):=by unfold RS.read;rw[hat];simp only[hst,q,and_self,decide_true,if_true]
   rw[e1,e2];exact⟨rfl,h⟩
  .obtain⟨f1,f2⟩:=failsP_is r.nr id
   rw[h.nr id h1 (by have:=h.np;omega)]at f1 f2;by_cases z:s.fl (id,false)=0
   .have e2:r.read id=(((s.pg (id-1)).2,0),{r with rd:=r.rd+1,left:=r.left-1}):=by
     unfold RS.read;rw[hat];simp only[hst,q,decide_false,f1,z,not_true,Bool.false_eq_true,if_false];rw[h.L,(plL_set h1 h2 h3 0).2]
    rw[e2]
    cases hs:s.stops with
    |false=>
     have e1:s.read id=(((s.pg (id-1)).2,0),{s with rd:=s.rd+1}):=by unfold DS.read DS.att;rw[hh];simp[hs,z]
     rw[e1];exact⟨rfl,h.room,h.L,congrArg (· +1) h.rd,h.wr,h.st,(fun k=>by rw[show s.stops=true from k]at hs;cases hs),h.nr,h.ns,h.np⟩
    |true=>
     have hl:=h.le hs;have hl0:¬s.left=0:=fun k=>q ⟨hs,k⟩
     have e1:s.read id=(((s.pg (id-1)).2,0),{s with left:=s.left-1,rd:=s.rd+1}):=by unfold DS.read DS.att;rw[hh];simp[hs,z,hl0]
     rw[e1];exact⟨rfl,h.room,h.L,congrArg (· +1) h.rd,h.wr,h.st,(fun _=>by show r.left-1=((s.left-1:Nat):Int);omega),h.nr,h.ns,h.np⟩
   .have e1:s.read id=((0,7),{s with fl:=updK s.fl (id,false) (s.fl (id,false)-1)}):=by unfold DS.read DS.att;rw[hh];simp[q,z]
    have e2:r.read id=((0,7),{r with nr:=(failsP r.nr id).1}):=by unfold RS.read;rw[hat];simp[hst,q,f1,z]
    rw[e1,e2];refine⟨rfl,h.room,h.L,h.rd,h.wr,h.st,h.le,fun x x1 x2=>?_,fun x x1 x2=>?_,h.np⟩
    .show valP (failsP r.nr id).1 x=updK s.fl (id,false) (s.fl (id,false)-1) (x,false)
     rw[f2 x];unfold updK;by_cases e:x=id
     .simp[e]
     .simp[e];exact h.nr x x1 x2
    .show valP r.ns x=updK s.fl (id,false) (s.fl (id,false)-1) (x,true)
     unfold updK;simp;exact h.ns x x1 x2
 .have e1:s.read id=((0,3),s):=by unfold DS.read DS.att;rw[hh];simp
  have e2:r.read id=((0,3),r):=by unfold RS.read;rw[hat]
  rw[e1,e2];exact⟨rfl,h⟩
theorem DRel.write(h:DRel s r)(id v:Nat):(s.write id v).1=(r.write id v).1∧DRel (s.write id v).2 (r.write id v).2:=by
 rcases h.has id with⟨hh,h1,h2,h3,hat⟩|⟨hh,hat⟩
 .have hst:=h.stopped
  by_cases q:s.stops=true∧s.left=0
  .have e1:s.write id v=(7,s):=by unfold DS.write DS.att;rw[hh];simp[q.1,q.2]
   have e2:r.write id v=(7,r):=by unfold RS.write;rw[hat];simp only[hst,q,and_self,decide_true,if_true]
   rw[e1,e2];exact⟨rfl,h⟩
  .obtain⟨f1,f2⟩:=failsP_is r.ns id
   rw[h.ns id h1 (by have:=h.np;omega)]at f1 f2;by_cases z:s.fl (id,true)=0
   .have e2:r.write id v=(0,{r with L:=plL (upd s.pg (id-1) ((s.pg (id-1)).1,v)) s.np,wr:=r.wr+1,left:=r.left-1}):=by
     unfold RS.write;rw[hat];simp only[hst,q,decide_false,f1,z,not_true,Bool.false_eq_true,if_false];rw[h.L,(plL_set h1 h2 h3 v).1]
    rw[e2]
    cases hs:s.stops with
    |false=>
     have e1:s.write id v=(0,{s with wr:=s.wr+1,pg:=upd s.pg (id-1) ((s.pg (id-1)).1,v)}):=by unfold DS.write DS.att;rw[hh];simp[hs,z]
     rw[e1];exact⟨rfl,h.room,rfl,h.rd,congrArg (· +1) h.wr,h.st,(fun k=>by rw[show s.stops=true from k]at hs;cases hs),h.nr,h.ns,h.np⟩
    |true=>
     have hl:=h.le hs;have hl0:¬s.left=0:=fun k=>q ⟨hs,k⟩
     have e1:s.write id v=(0,{s with left:=s.left-1,wr:=s.wr+1,pg:=upd s.pg (id-1) ((s.pg (id-1)).1,v)}):=by unfold DS.write DS.att;rw[hh];simp[hs,z,hl0]
     rw[e1];exact⟨rfl,h.room,rfl,h.rd,congrArg (· +1) h.wr,h.st,(fun _=>by show r.left-1=((s.left-1:Nat):Int);omega),h.nr,h.ns,h.np⟩
   .have e1:s.write id v=(7,{s with fl:=updK s.fl (id,true) (s.fl (id,true)-1)}):=by unfold DS.write DS.att;rw[hh];simp[q,z]
    have e2:r.write id v=(7,{r with ns:=(failsP r.ns id).1}):=by unfold RS.write;rw[hat];simp[hst,q,f1,z]
    rw[e1,e2];refine⟨rfl,h.room,h.L,h.rd,h.wr,h.st,h.le,fun x x1 x2=>?_,fun x x1 x2=>?_,h.np⟩
    .show valP r.nr x=updK s.fl (id,true) (s.fl (id,true)-1) (x,false)
     unfold updK;simp;exact h.nr x x1 x2
    .show valP (failsP r.ns id).1 x=updK s.fl (id,true) (s.fl (id,true)-1) (x,true)
     rw[f2 x];unfold updK;by_cases e:x=id
     .simp[e]
     .simp[e];exact h.ns x x1 x2
 .have e1:s.write id v=(3,s):=by unfold DS.write DS.att;rw[hh];simp
  have e2:r.write id v=(3,r):=by unfold RS.write;rw[hat]
  rw[e1,e2];exact⟨rfl,h⟩
theorem DRel.free_no(h:DRel s r){id:Nat}(hh:s.has id=false):r.free id=(3,r):=by
 rcases h.has id with⟨q,_⟩|⟨_,hat⟩
 .rw[hh]at q;cases q
 .unfold RS.free;rw[hat]
theorem DRel.free_yes(h:DRel s r){id:Nat}(hh:s.has id=true):(r.free id).1=0∧DRel (s.gone id) (r.free id).2:=by
 rcases h.has id with⟨_,h1,h2,h3,hat⟩|⟨q,_⟩
 .have e:r.free id=(0,{r with L:=plL (upd s.pg (id-1) (false,0)) s.np}):=by
   unfold RS.free;rw[hat,h.L];simp only[plL_cut h1 h2 h3]
  rw[e];exact⟨rfl,h.room,rfl,h.rd,h.wr,h.st,h.le,h.nr,h.ns,h.np⟩
 .rw[hh]at q;cases q
theorem DRel.stop(h:DRel s r)(t:Nat):DRel {s with stops:=true,left:=t} {r with stops:=true,left:=(t:Int)}:=
 ⟨h.room,h.L,h.rd,h.wr,rfl,fun _=>rfl,h.nr,h.ns,h.np⟩
def DS.put(s:DS)(k:Nat):DS:={s with np:=max s.np (k+1),pg:=upd s.pg k (true,0)}
theorem DRel.put(h:DRel s r){k:Nat}(hg:Gap r.L k)(hl:r.L.length<r.room):DRel (s.put k) (r.ins k):=by
 rw[h.L]at hg hl;obtain⟨g1,g2,g3,g4⟩:=plL_gap hg;refine⟨h.room,?_,h.rd,h.wr,h.st,h.le,h.nr,h.ns,?_⟩
 .show r.L.take k++[(k+1,0)]++r.L.drop k=_
  rw[h.L];exact g4
 .show max s.np (k+1)<=s.room
  have hnp:=h.np;rw[h.room]at hl;rcases Nat.lt_or_ge k s.np with q|q
  .omega
  .have e:k=s.np:=by omega
   subst e;have:(plL s.pg s.np).length=s.np:=plR_full (fun i _ q=>g2 i (by omega));omega
end
structure TwoI(w0 w:World)(db rb:Nat)(s:DS)(r:RS)(m m' c:Nat)(pv fv:Value)(mb:Nat)(fh:Nat->Nat)(nf:Nat)(lv nv sv:Value):Prop where
 d:DC w db s c pv fv mb fh nf
 e:RCd w rb r lv nv sv
 sep:∀i,FD db pv fv mb i->¬FR rb lv nv sv i
 bd:c<=m∧s.rd<=m∧s.wr<=m
 be:r.nr.length<=m'∧r.ns.length<=m'∧r.rd<=m'∧r.wr<=m'∧-(m':Int)<=r.left
 bl:isI63 r.left.toNat
 od:∀i,FD db pv fv mb i->w0.heap.size<=i
 oe:w0.heap.size<=rb
 f:Fr NoF w0 w
def TwoE(w0 w:World)(db rb:Nat)(s:DS)(r:RS)(m m':Nat):Prop:=∃c pv fv mb fh nf lv nv sv,TwoI w0 w db rb s r m m' c pv fv mb fh nf lv nv sv
def TwoB(w0 w:World)(db rb:Nat)(s:DS)(r:RS)(m m' ob:Nat)(oc:Nat->Value):Prop:=∃c pv fv mb fh nf lv nv sv,TwoI w0 w db rb s r m m' c pv fv mb fh nf lv nv sv∧Blk w ob 5 oc∧¬FD db pv fv mb ob∧¬FR rb lv nv sv ob
section
variable{w0 w w' w1:World}{db rb m m' c mb nf ob:Nat}{s s1:DS}{r r1:RS}{pv fv lv nv sv:Value}{fh:Nat->Nat}{oc:Nat->Value}
theorem TwoB.e(h:TwoB w0 w db rb s r m m' ob oc):TwoE w0 w db rb s r m m':=by
 obtain⟨c,pv,fv,mb,fh,nf,lv,nv,sv,h,hb,h1,h2⟩:=h;exact⟨c,pv,fv,mb,fh,nf,lv,nv,sv,h⟩
theorem DS.write_b(s:DS)(id v:Nat):(s.write id v).2.rd=s.rd∧(s.write id v).2.wr<=s.wr+1:=by
 obtain⟨a1,a2,a3,a4,a5⟩:=s.att_2 id true;unfold DS.write
 split
 .exact⟨a4,Nat.le_refl _⟩
 .exact⟨a4,by show(s.att id true).2.wr<=_;omega⟩
end
end
section
open Go.Maps Go.Proofs.Tryz Go.RowKit
def tk2:DS:=(dk0 2).grow.grow
theorem nil_copy(w:World):Calls prog 18 #[.pointer none] w fun e w'=>e=.returned (.pointer none)∧w=w':=by
 go_enter func18,ntmps18;go_wp2;go_returns;exact⟨rfl,rfl⟩
end
section
open Go.RowKit
def DLt(s:DS)(r:RS):Prop:=DRel s r∨r.stops=false∧DRel s {r with stops:=true}∧900000<=r.left+(r.rd:Int)+(r.wr:Int)
section
variable{s:DS}{r:RS}
theorem DLt.room(h:DLt s r):r.room=s.room:=h.elim (·.room) (·.2.1.room)
theorem DLt.L(h:DLt s r):r.L=plL s.pg s.np:=h.elim (·.L) (·.2.1.L)
theorem DLt.np(h:DLt s r):s.np<=s.room:=h.elim (·.np) (·.2.1.np)
theorem DLt.wr(h:DLt s r):r.wr=s.wr:=h.elim (·.wr) (·.2.1.wr)
theorem DLt.read(h:DLt s r)(id:Nat)(hb:s.rd+s.wr<900000):(s.read id).1=(r.read id).1∧DLt (s.read id).2 (r.read id).2:=by
 rcases h with h|⟨h0,h1,h2⟩
 .exact⟨(h.read id).1,.inl (h.read id).2⟩
 .have e1:=h1.rd
  have e2:=h1.wr;simp only at e1 e2;have hs1:({r with stops:=true}:RS).stopped=false:=by simp[RS.stopped];omega
  have hs2:r.stopped=false:=by simp[RS.stopped,h0]
  obtain⟨k1,k2⟩:=h1.read id
  have key:(({r with stops:=true}:RS).read id).1=(r.read id).1∧(({r with stops:=true}:RS).read id).2={(r.read id).2 with stops:=true}∧(r.read id).2.stops=false∧(r.read id).2.left+((r.read id).2.rd:Int)+((r.read id).2.wr:Int)=r.left+(r.rd:Int)+(r.wr:Int):=by
   unfold RS.read;rw[hs1,hs2]
   cases atP r.L id with
   |none=>exact⟨rfl,rfl,h0,rfl⟩
   |some k=>
    simp only[Bool.false_eq_true,if_false]
    split
    .exact⟨rfl,rfl,h0,rfl⟩
    .refine⟨rfl,rfl,h0,?_⟩
     show r.left-1+((r.rd+1:Nat):Int)+(r.wr:Int)=_
     omega
  obtain⟨a1,a2,a3,a4⟩:=key;rw[a1]at k1;rw[a2]at k2;exact⟨k1,.inr ⟨a3,k2,by rw[a4];exact h2⟩⟩
theorem DLt.write(h:DLt s r)(id v:Nat)(hb:s.rd+s.wr<900000):(s.write id v).1=(r.write id v).1∧DLt (s.write id v).2 (r.write id v).2:=by
 rcases h with h|⟨h0,h1,h2⟩
 .exact⟨(h.write id v).1,.inl (h.write id v).2⟩
 .have e1:=h1.rd
  have e2:=h1.wr;simp only at e1 e2;have hs1:({r with stops:=true}:RS).stopped=false:=by simp[RS.stopped];omega
  have hs2:r.stopped=false:=by simp[RS.stopped,h0]
  obtain⟨k1,k2⟩:=h1.write id v
  have key:(({r with stops:=true}:RS).write id v).1=(r.write id v).1∧(({r with stops:=true}:RS).write id v).2={(r.write id v).2 with stops:=true}∧(r.write id v).2.stops=false∧(r.write id v).2.left+((r.write id v).2.rd:Int)+((r.write id v).2.wr:Int)=r.left+(r.rd:Int)+(r.wr:Int):=by
   unfold RS.write;rw[hs1,hs2]
   cases atP r.L id with
   |none=>exact⟨rfl,rfl,h0,rfl⟩
   |some k=>
    simp only[Bool.false_eq_true,if_false]
    split
    .exact⟨rfl,rfl,h0,rfl⟩
    .refine⟨rfl,rfl,h0,?_⟩
     show r.left-1+(r.rd:Int)+((r.wr+1:Nat):Int)=_
     omega
  obtain⟨a1,a2,a3,a4⟩:=key;rw[a1]at k1;rw[a2]at k2;exact⟨k1,.inr ⟨a3,k2,by rw[a4];exact h2⟩⟩
theorem RS.free_st(r:RS)(id:Nat):(({r with stops:=true}:RS).free id).1=(r.free id).1∧(({r with stops:=true}:RS).free id).2={(r.free id).2 with stops:=true}∧(r.free id).2.stops=r.stops∧(r.free id).2.left=r.left∧(r.free id).2.rd=r.rd∧(r.free id).2.wr=r.wr:=by
 unfold RS.free
 cases atP r.L id with
 |none=>exact⟨rfl,rfl,rfl,rfl,rfl,rfl⟩
 |some k=>exact⟨rfl,rfl,rfl,rfl,rfl,rfl⟩
theorem DLt.free_no(h:DLt s r){id:Nat}(hh:s.has id=false):r.free id=(3,r):=by
 rcases h with h|⟨h0,h1,h2⟩
 .exact h.free_no hh
 .have k:=h1.free_no hh
  unfold RS.free at k⊢;simp only at k
  split at k
  .rfl
  .simp at k
theorem DLt.free_yes(h:DLt s r){id:Nat}(hh:s.has id=true):(r.free id).1=0∧DLt (s.gone id) (r.free id).2:=by
 rcases h with h|⟨h0,h1,h2⟩
 .exact⟨(h.free_yes hh).1,.inl (h.free_yes hh).2⟩
 .obtain⟨k1,k2⟩:=h1.free_yes hh
  obtain⟨a1,a2,a3,a4,a5,a6⟩:=r.free_st id;rw[a1]at k1;rw[a2]at k2;exact⟨k1,.inr ⟨a3.trans h0,k2,by rw[a4,a5,a6];exact h2⟩⟩
theorem DLt.stop(h:DLt s r)(t:Nat):DLt {s with stops:=true,left:=t} {r with stops:=true,left:=(t:Int)}:=
 .inl (h.elim (fun h=>h.stop t) (fun h=>h.2.1.stop t))
theorem DLt.put(h:DLt s r){k:Nat}(hg:Gap r.L k)(hl:r.L.length<r.room):DLt (s.put k) (r.ins k):=by
 rcases h with h|⟨h0,h1,h2⟩
 .exact .inl (h.put hg hl)
 .exact .inr ⟨h0,h1.put hg hl,h2⟩
end
end
section
open Go.Proofs.Tryz Go.RowKit
def Led(R:World->(Nat->Prop)->Prop)(F:Nat->Prop)(w w':World):Prop:=∃F',R w' F'∧Fr F w w'∧∀i,F' i->F i∨w.heap.size<=i
def CD(db:Nat)(r:RS)(m:Nat)(w:World)(F:Nat->Prop):Prop:=∃s c pv fv mb fh nf,DC w db s c pv fv mb fh nf∧DLt s r∧(c<=m∧s.rd<=m∧s.wr<=m)∧∀i,F i↔FD db pv fv mb i
theorem gapL_ex(L:List (Nat×Nat)):∃k,Gap L k:=by
 have key:∀d k,L.length-k=d->k<=L.length->(∀j (hj:j<L.length),j<k->L[j].1=j+1)->∃k,Gap L k:=by
  intro d
  induction d with
  |zero=>exact fun k hd hk ha=>⟨k,hk,ha,fun q=>by omega⟩
  |succ d ih=>
   intro k hd hk ha;by_cases h:L[k].1=k+1
   .refine ih (k+1) (by omega) (by omega) (fun j hj hjk=>?_)
    by_cases e:j=k
    .subst e;exact h
    .exact ha j hj (by omega)
   .exact⟨k,hk,ha,fun _=>h⟩
 exact key _ 0 rfl (by omega) (fun j hj h=>by omega)
noncomputable def gapOf(L:List (Nat×Nat)):Nat:=Classical.choose (gapL_ex L)
theorem gapOf_is(L:List (Nat×Nat)):Gap L (gapOf L):=Classical.choose_spec (gapL_ex L)
def RS.has(r:RS)(id:Nat):Bool:=(atP r.L id).isSome
section
variable{w w':World}{db m:Nat}{r:RS}{F:Nat->Prop}
theorem CD.fr(h:CD db r m w F){G:Nat->Prop}(f:Fr G w w')(hG:∀i,F i->¬G i):CD db r m w' F:=by
 obtain⟨s,c,pv,fv,mb,fh,nf,h1,h2,h3,h4⟩:=h;exact⟨s,c,pv,fv,mb,fh,nf,h1.fr f (fun i q=>hG i ((h4 i).2 q)),h2,h3,h4⟩
theorem CD.fr0(h:CD db r m w F)(f:Fr NoF w w'):CD db r m w' F:=h.fr f (fun _ _ q=>q)
theorem CD.lt(h:CD db r m w F):∀i,F i->i<w.heap.size:=by
 obtain⟨s,c,pv,fv,mb,fh,nf,h1,h2,h3,h4⟩:=h;exact fun i q=>h1.lt i ((h4 i).1 q)
theorem CD.more(h:CD db r m w F){k:Nat}(hk:m<=k):CD db r k w F:=by
 obtain⟨s,c,pv,fv,mb,fh,nf,h1,h2,h3,h4⟩:=h;exact⟨s,c,pv,fv,mb,fh,nf,h1,h2,by omega,h4⟩
theorem CD.room(h:CD db r m w F):1<=r.room∧r.room<=65535:=by
 obtain⟨s,c,pv,fv,mb,fh,nf,h1,h2,h3,h4⟩:=h;rw[h2.room];exact h1.r1
theorem CD.ids(h:CD db r m w F):∀x∈r.L,1<=x.1∧x.1<=r.room:=by
 obtain⟨s,c,pv,fv,mb,fh,nf,h1,h2,h3,h4⟩:=h;intro x hx;rw[h2.L]at hx;obtain⟨i,_,hi,_,e⟩:=plR_mem.1 hx;have:=h2.np;have:=h2.room;rw[e];exact⟨by show 1<=i+1;omega,by show i+1<=r.room;omega⟩
theorem cd_write(h:CD db r m w F)(hm:m<100000){id:Nat}(hu:isU32D id)(v:Nat):Calls prog 94 #[.pointer (some ⟨db,0,none⟩),.int .u32 id,.int .u64 v] w fun e w'=>e=.returned (.int .i64 (r.write id v).1)∧Led (CD db (r.write id v).2 (m+1)) F w w':=by
 obtain⟨s,c,pv,fv,mb,fh,nf,h1,h2,⟨b1,b2,b3⟩,h4⟩:=h;obtain⟨r1,r2⟩:=s.write_b id v;obtain⟨q1,q2⟩:=h2.write id v (by omega);rw[<-q1];refine(dk_write h1 hu v (by omega)).mono ?_;rintro e w'⟨he,⟨c',hc,hd⟩,f⟩;exact⟨he,F,⟨_,c',pv,fv,mb,fh,nf,hd,q2,⟨by omega,by omega,by omega⟩,h4⟩,f.mono (fun i q=>(h4 i).2 (by rcases q with q|q|q;exact .inl q;exact .inr (.inl q);exact .inr (.inr (.inl q)))),fun i q=>.inl q⟩
theorem cd_free(h:CD db r m w F){id:Nat}(hu:isU32D id):Calls prog 63 #[.pointer (some ⟨db,0,none⟩),.int .u32 id] w fun e w'=>e=.returned (.int .i64 (r.free id).1)∧Led (CD db (r.free id).2 m) F w w':=by
 obtain⟨s,c,pv,fv,mb,fh,nf,h1,h2,h3,h4⟩:=h
 cases hh:s.has id with
 |false=>
  rw[h2.free_no hh];refine(dk_free_no h1 hu hh).mono ?_;rintro e w'⟨he,rfl⟩;exact⟨he,F,⟨s,c,pv,fv,mb,fh,nf,h1,h2,h3,h4⟩,Fr.refl _ _,fun i q=>.inl q⟩
 |true=>
  obtain⟨q1,q2⟩:=h2.free_yes hh;rw[q1];refine(dk_free_yes h1 hu hh).mono ?_;rintro e w'⟨he,⟨fv',hd,ho⟩,f⟩;refine⟨he,FD db pv fv' mb,⟨_,c,pv,fv',mb,_,_,hd,q2,h3,fun i=>Iff.rfl⟩,f.mono (fun i q=>(h4 i).2 q),fun i q=>?_⟩;rcases q with q|q|q|q
  .exact .inl ((h4 i).2 (.inl q))
  .exact .inl ((h4 i).2 (.inr (.inl q)))
  .exact .inl ((h4 i).2 (.inr (.inr (.inl q))))
  .exact(ho i q).imp (fun q=>(h4 i).2 (.inr (.inr (.inr q)))) (fun q=>q)
theorem cd_stop(h:CD db r m w F)(t:Int)(ht:isI63 t.toNat):Calls prog 20 #[.pointer (some ⟨db,0,none⟩),.int .i64 t] w fun e w'=>e=.returned (.tuple #[])∧Led (CD db {r with stops:=true,left:=(t.toNat:Int)} m) F w w':=by
 obtain⟨s,c,pv,fv,mb,fh,nf,h1,h2,h3,h4⟩:=h;refine(dk_stop h1 t ht).mono ?_;rintro e w'⟨he,hd,f⟩;exact⟨he,F,⟨_,c,pv,fv,mb,fh,nf,hd,h2.stop t.toNat,h3,h4⟩,f.mono (fun i q=>(h4 i).2 (.inl q)),fun i q=>.inl q⟩
theorem cd_full(h:CD db r m w F)(hf:r.room<=r.L.length):Calls prog 61 #[.pointer (some ⟨db,0,none⟩)] w fun e w'=>e=.returned (.tuple #[.int .u32 0,.int .i64 2])∧Led (CD db r m) F w w':=by
 obtain⟨s,c,pv,fv,mb,fh,nf,h1,h2,h3,h4⟩:=h;have hf0:=hf;rw[h2.L,h2.room]at hf;have g1:=plR_len s.pg 0 s.np;have g2:(plL s.pg s.np).length<=s.np:=g1
 cases nf with
 |zero=>
  refine(dk_alloc_full h1 (by omega)).mono ?_;rintro e w'⟨he,d,rfl⟩;exact⟨he,F,⟨s,c,pv,fv,mb,fh,0,h1.fr0 ((Fr.refl NoF _).drewN d),h2,h3,h4⟩,(Fr.refl _ _).drewN d,fun i q=>.inl q⟩
 |succ nf=>
  obtain⟨l1,l2,l3,l4⟩:=h1.least;have:=plL_short (pg:=s.pg) (i:=fh 0-1) (n:=s.np) (by omega) l3;have:=h2.np;omega
theorem cd_alloc(h:CD db r m w F)(hf:r.L.length<r.room):Calls prog 61 #[.pointer (some ⟨db,0,none⟩)] w fun e w'=>e=.returned (.tuple #[.int .u32 (gapOf r.L+1:Nat),.int .i64 0])∧Led (CD db (r.ins (gapOf r.L)) m) F w w':=by
 obtain⟨s,c,pv,fv,mb,fh,nf,h1,h2,h3,h4⟩:=h;have hput:=h2.put (gapOf_is r.L) hf;rw[h2.L,h2.room]at hf;have hg:Gap (plL s.pg s.np) (gapOf r.L):=by have:=gapOf_is r.L;rw[h2.L]at this⊢;exact this
 cases nf with
 |zero=>
  have hall:∀i,0<=i->i<0+s.np->(s.pg i).1=true:=by
   intro i _ hi
   cases hb:(s.pg i).1 with
   |true=>rfl
   |false=>
    obtain⟨k,q,_⟩:=(h1.fm (i+1)).2 ⟨by omega,by omega,by rw[Nat.add_sub_cancel];exact hb⟩;omega
  have hlen:(plL s.pg s.np).length=s.np:=plR_full hall
  have hk:gapOf r.L=s.np:=by
   obtain⟨q1,q2,q3,q4⟩:=plL_gap hg;rcases Nat.lt_or_ge (gapOf r.L) s.np with q|q
   .have:=q3 q;rw[hall _ (by omega) (by omega)]at this;cases this
   .omega
  rw[hk]at hput⊢;have e:s.put s.np=s.grow:=by unfold DS.put DS.grow;rw[show max s.np (s.np+1)=s.np+1 from by omega]
  rw[e]at hput;refine(dk_alloc_new h1 (by omega)).mono ?_;rintro e' w'⟨he,⟨pv',hd,ho⟩,f⟩;refine⟨he,FD db pv' fv mb,⟨_,c,pv',fv,mb,_,_,hd,hput,h3,fun i=>Iff.rfl⟩,f.mono (fun i q=>(h4 i).2 (q.elim .inl (fun q=>.inr (.inr (.inl q))))),fun i q=>?_⟩;rcases q with q|q|q|q
  .exact .inl ((h4 i).2 (.inl q))
  .exact .inl ((h4 i).2 (.inr (.inl q)))
  .exact(ho i q).imp (fun q=>(h4 i).2 (.inr (.inr (.inl q)))) id
  .exact .inl ((h4 i).2 (.inr (.inr (.inr q))))
 |succ nf=>
  obtain⟨l1,l2,l3,l4⟩:=h1.least
  have hk:gapOf r.L=fh 0-1:=by
   obtain⟨q1,q2,q3,q4⟩:=plL_gap hg
   have hj1:gapOf r.L<=fh 0-1:=by
    rcases Nat.lt_or_ge (fh 0-1) (gapOf r.L)with q|q
    .have:=q2 _ q;rw[l3]at this;cases this
    .exact q
   have:=l4 (gapOf r.L+1) (by omega) (by omega) (by rw[Nat.add_sub_cancel];exact q3 (by omega));omega
  rw[hk]at hput⊢;have e:s.put (fh 0-1)=s.reuse (fh 0):=by unfold DS.put DS.reuse;rw[show max s.np (fh 0-1+1)=s.np from by omega]
  rw[e]at hput;refine(dk_alloc_pop h1).mono ?_;rintro e' w'⟨he,⟨fv',hd,ho⟩,f⟩;refine⟨by rw[show fh 0-1+1=fh 0 from by omega];exact he,FD db pv fv' mb,⟨_,c,pv,fv',mb,_,_,hd,hput,h3,fun i=>Iff.rfl⟩,f.mono (fun i q=>(h4 i).2 q),fun i q=>?_⟩;rcases q with q|q|q|q
  .exact .inl ((h4 i).2 (.inl q))
  .exact .inl ((h4 i).2 (.inr (.inl q)))
  .exact .inl ((h4 i).2 (.inr (.inr (.inl q))))
  .exact .inl ((h4 i).2 (.inr (.inr (.inr (ho i q)))))
theorem cd_pages(h:CD db r m w F):Calls prog 12 #[.pointer (some ⟨db,0,none⟩)] w fun e w'=>∃v,e=.returned v∧OwK .u32 w.heap.size 34 w' v (r.L.map (·.1))∧Fr NoF w w':=by
 obtain⟨s,c,pv,fv,mb,fh,nf,h1,h2,h3,h4⟩:=h;have:=dk_pages h1;rw[ids_plR,<-h2.L]at this;exact this
theorem cd_new(room:Nat)(w:World)(h1:1<=room)(h2:room<=65535):Calls prog 7 #[.int .i64 room] w fun e w'=>∃db F,e=.returned (.tuple #[.pointer (some ⟨db,0,none⟩),.int .i64 0])∧CD db ⟨room,[],[],[],0,0,false,0⟩ 0 w' F∧(∀i,F i->w.heap.size<=i)∧Fr NoF w w':=by
 refine(dk_new_yes room w h1 h2).mono ?_;rintro e w'⟨db,pv,fv,mb,he,hd,ho,f⟩;refine⟨db,FD db pv fv mb,he,⟨_,0,pv,fv,mb,_,0,hd,.inl ⟨rfl,rfl,rfl,rfl,rfl,fun q=>(by cases q),fun id _ _=>rfl,fun id _ _=>rfl,by show 0<=room;omega⟩,⟨by omega,by show 0<=0;omega,by show 0<=0;omega⟩,fun i=>Iff.rfl⟩,ho,f⟩
end
end
end Go.Proofs.YtoenclhimbpfeaaGreatDoor
