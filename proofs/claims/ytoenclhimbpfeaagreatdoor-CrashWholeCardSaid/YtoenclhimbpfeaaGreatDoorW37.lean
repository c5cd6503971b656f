/- Part 37. -/
import Derived.Test.YtoenclhimbpfeaaGreatDoorW36
namespace Go.Proofs.YtoenclhimbpfeaaGreatDoor
set_option linter.all false
set_option maxHeartbeats 16000000
set_option maxRecDepth 100000
section
open Go.Maps Go.Proofs.Tryz Go.RowKit
def cmpZ(x y:Int):Int:=if x<y then-1 else if y<x then 1 else 0
theorem Fd(z:Nat)(w:World):Calls prog 111 #[.int .u32 z] w λe w'=>e=.returned (.bool false)/\w=w':=by
 go_enter func111,ntmps111;go_wp2;go_returns;exact⟨by simp,rfl⟩
theorem Hf(x y:Nat)(w:World):Calls prog 97 #[.int .u32 x,.int .u32 y] w λe w'=>e=.returned (.int .i64 (cmpZ x y))/\w=w':=by
 unfold cmpZ;by_cases h1:(x:Int)<y
 .rw[if_pos h1]
  go_enter func97,ntmps97
  go_wp2_with(go_at_call 111;refine(Fd _ _).mono ?_;rintro e w'⟨rfl,rfl⟩)
  go_returns;exact⟨rfl,rfl⟩
 .rw[if_neg h1]
  have h1':(y:Int)<=x:=by omega
  by_cases h2:(y:Int)<x
  .rw[if_pos h2]
   go_enter func97,ntmps97
   go_wp2_with(go_at_call 111;refine(Fd _ _).mono ?_;rintro e w'⟨rfl,rfl⟩)
   go_returns;exact⟨rfl,rfl⟩
  .rw[if_neg h2]
   have h2':(x:Int)<=y:=by omega
   go_enter func97,ntmps97
   go_wp2_with(go_at_call 111;refine(Fd _ _).mono ?_;rintro e w'⟨rfl,rfl⟩)
   go_returns;exact⟨rfl,rfl⟩
def dirL(f:Nat->FrS)(k:Nat):List Nat:=(List.range k).filter λi=>(f i).dirty
theorem wF(f:Nat->FrS)(k:Nat):dirL f (k+1)=if(f k).dirty=true then dirL f k++[k]else dirL f k:=by
 unfold dirL;rw[List.range_succ,List.filter_append]
 cases h:(f k).dirty<;>simp[h]
theorem oJ(f:Nat->FrS)(k:Nat):(dirL f k).length<=k:=by
 have:=List.length_filter_le (λi=>(f i).dirty) (List.range k)
 rwa [List.length_range]at this
theorem iN{f:Nat->FrS}{k x:Nat}:x∈dirL f k↔x<k/\(f x).dirty=true:=by
 unfold dirL;simp
section
variable{w w':World}{p:PP}{f:Nat->FrS}{pl:Nat->Option Int}{E I:Nat->Bool}{sc m:Nat}
theorem tA(H:MP w p f pl E I sc m){b x y:Nat}(hx:x<p.n)(hy:y<p.n)(hb:w.cell? ⟨b,0,none⟩=some p.ptr)(hbl:b<w.heap.size):Calls prog 96 #[.int .i64 x,.int .i64 y,.pointer (some ⟨b,0,none⟩)] w λe w'=>e=.returned (.int .i64 (cmpZ (f x).id (f y).id))/\∃q,w'=w.drewN q:=by
 have c2:w.cell? ⟨p.pb,2,none⟩=some (.slice (some ⟨p.fb,0,none⟩) p.n p.n):=H.ce 2 (by omega);have lb:=H.hd.lt;have lf:=H.fr.lt;have hn:=H.hn;have cx:=(H.cf hx).1;have cy:=(H.cf hy).1;have HC:=Hd (λd=>Hf (f x).id (f y).id (w.drewN d));have hxi:(x:Int)<(p.n:Int):=by omega
 have hyi:(y:Int)<(p.n:Int):=by omega
 generalize(f x).id=xi at*;generalize(f y).id=yi at*;generalize cmpZ xi yi=r at*;unfold PP.ptr at hb;clear H;go_enter func96,ntmps96
 go_wp2_with fail
 go_quiet ((go_at_call 97;exact qs (HC.out _)))
 go_wp2;go_returns;exact⟨rfl,_,rfl⟩
def oh(p:PP)(f:Nat->FrS)(bx base:Nat):Prop:=∀(W:World) (v:Value) (l:List Nat),OwK .i64 base 3 W v l->bx<base->(∀x∈l,x<p.n)->l.length<=65535->W.cell? ⟨bx,0,none⟩=some p.ptr->bx<W.heap.size->(∃pl E I sc m,MP W p f pl E I sc m)->(∀i,p.own i->i<base)->0<base->
 Calls prog 95 #[v,.func (.func 96) #[] #[.pointer (some ⟨bx,0,none⟩)]] W λe w'=>e=.returned (.tuple #[])/\∃l':List Nat,l'.Perm l/\(∀i j (hi:i<l'.length) (hj:j<l'.length),i<j->¬(f l'[j]).id<(f l'[i]).id)/\SlK .i64 w' v l'/\Fr (λi=>v.ownBlock=some i) W w'
theorem pM(H:MP w p f pl E I sc m)(hs:oh p f w.heap.size (w.heap.size+1)):Calls prog 72 #[p.ptr] w λe w'=>∃v l',e=.returned v/\l'.Perm (dirL f p.n)/\(∀i j (hi:i<l'.length) (hj:j<l'.length),i<j->¬(f l'[j]).id<(f l'[i]).id)/\SlK .i64 w' v l'/\(∀i,v.ownBlock=some i->w.heap.size<=i)/\Fr NoF w w':=by
 obtain⟨b1,b2,b3⟩:=oT w p.ptr 75;have H1:=H.fr0 b3;have hlt:=H.lt;have htb:=Hd H.tab.lt;have hn:=H1.hn
 have KX:Hid (∀wr,Fr NoF (w.alloc (.cells #[p.ptr] 75)) wr->wr.cell? ⟨w.heap.size,0,none⟩=some p.ptr/\w.heap.size<wr.heap.size/\wr.cell? ⟨p.pb,2,none⟩=some (.slice (some ⟨p.fb,0,none⟩) p.n p.n)/\p.pb<wr.heap.size/\p.fb<wr.heap.size/\MP wr p f pl E I sc m):=λwr g=>by
  have h:=H1.fr0 g;have hz:=g.size;exact⟨by rw[g.cell (p:=⟨w.heap.size,0,none⟩) (by show w.heap.size<_;omega) (λq=>q)];exact b1,by omega,h.ce 2 (by omega),h.hd.lt,h.fr.lt,h⟩
 have KD:Hid (∀wr k,Fr NoF (w.alloc (.cells #[p.ptr] 75)) wr->k<p.n->wr.cell? ⟨p.fb,k*4+3,none⟩=some (.bool (f k).dirty)):=λwr k g hk=>((H1.fr0 g).cf hk).2.2.2
 have HSO:=Hd hs;have HLT:=Hd hlt;have B3:=Hd b3;have hbs:=b2;generalize hw2:(w.alloc (.cells #[p.ptr] 75))=w2 at*;clear H H1 hs hlt b1 b2 b3;obtain⟨x1,x2,x3,x4,x5,_⟩:=KX.out w2 (Fr.refl _ _);unfold PP.ptr at x1 hw2;unfold PP.ptr;go_enter func72,ntmps72
 go_wp2_with fail
 try rw[hw2]
 clear hw2
 go_loopw [3,10] (λo i wr=>∃k:Nat,k<=p.n/\i=.int .i64 k/\OwK .i64 (w.heap.size+1) 3 wr o (dirL f k)/\Fr NoF w2 wr) (λ_ i _=>p.n-(intOf i).toNat)
 case atStart=>exact⟨0,Nat.zero_le _,rfl,OwK.nil _ _ _ _,Fr.refl _ _⟩
 case round=>
  obtain⟨k,hk,rfl,ho,hf⟩:=hrel;obtain⟨y1,y2,y3,y4,y5,y6⟩:=KX.out wr hf;unfold PP.ptr at y1;have HO:=Hd ho;have HF:=Hd hf;have HY6:=Hd y6;have hsz:=hf.size;clear y6;by_cases hlt:k<p.n
  .have cd:=KD.out wr k hf hlt
   have hN:=wF f k;have hL:=oJ f k;have hlt':(k:Int)<(p.n:Int):=by omega
   cases hd:(f k).dirty with
   |false=>
    rw[hd]at cd hN;rw[if_neg (by simp)]at hN;have HN:=Hd hN;clear hN ho hf hL;go_wp2
    go_roundw
    case rel=>exact⟨k+1,by omega,by go_num,by rw[HN.out];exact HO.out,HF.out⟩
    case measure=>simp[intOf];omega
   |true=>
    rw[hd]at cd hN;rw[if_pos rfl]at hN;have HN:=Hd hN;clear hN ho hf;generalize dirL f k=l at*
    go_wp2_with(at_builtin;go_must(refine eT (base:=w.heap.size+1) EIi rfl _ _ rfl (by rfl) (by rfl) (by simp;omega) (ak HO.out ((Fr.refl NoF _).alloc _) (λ_ _ q=>q)) (SlC.ofOwn (aQ (w0:=wr) (Nat.le_refl _) #[.int .i64 k] 3 1 1 _ rfl rfl (by unfold maxLen;omega)) (by simp[Value.oneCell'])) (by unfold maxLen;omega) (by omega) ?_);intro v' w5 hown' hf' _;have HF':=Hd hf';have HO':=Hd hown';clear hown' hf')
    go_roundw
    case rel=>
     refine⟨k+1,by omega,by go_num,?_,?_⟩
     .rw[HN.out];exact OwK.snoc HO'.out
     .refine(HF.out.alloc _).trans HF'.out (λi hi=>.inr ?_)
      have:=HO.out.base i hi;omega
    case measure=>simp[intOf];omega
  .obtain rfl:k=p.n:=by omega
   have hL:=oJ f p.n;have HC:=Hd (HSO.out wr _ (dirL f p.n) ho (by omega) (λx hx=>(iN.1 hx).1) (by omega) y1 y2 ⟨pl,E,I,sc,m,HY6.out⟩ (λi q=>by have:=HLT.out i q;omega) (by have:=htb.out;omega));have hbase:=ho.base;have HB:=Hd hbase;clear ho hf hbase
   go_wp2_with fail
   refine HC.out.mono ?_;rintro e w5⟨rfl,l',p1,p2,p3,p4⟩;have P1:=Hd p1;have P2:=Hd p2;have P3:=Hd p3;have P4:=Hd p4;clear p1 p2 p3 p4 HC;go_wp2;go_returns;exact⟨_,l',rfl,P1.out,P2.out,P3.out,λi q=>by have:=HB.out i q;omega,(B3.out.trans HF.out (λ_ q=>q.elim)).trans P4.out (λi q=>.inr (by have:=HB.out i q;omega))⟩
end
def flF{τ:Type}(ax:Nat×PS τ)(k:Nat):Nat×PS τ:=(if(ax.2.clean k).1=0 then ax.1 else 7,(ax.2.clean k).2)
def PS.flushL{τ:Type}(X:PS τ)(l:List Nat):Nat×PS τ:=l.foldl flF (0,X)
theorem qf{τ:Type}(X:PS τ)(l:List Nat){k:Nat}(hk:k<l.length):X.flushL (l.take (k+1))=flF (X.flushL (l.take k)) l[k]:=by
 unfold PS.flushL;rw[List.take_succ_eq_append_getElem hk,List.foldl_append];rfl
section
variable{τ:Type}{P:Adv τ}{RR:World->τ->(Nat->Prop)->Prop}{ok:Nat->τ->(Nat->Nat)->(Nat->Bool)->Prop}{p:PP}(S:aJ P RR p.pb p.rv p.n ok){w w':World}{m:Nat}{F:Nat->Prop}{X:PS τ}{T:PT τ}
include S
theorem y9(H:PW RR ok p X m w F)(hm:m<60000)(hn:p.n<=64)(hs:oh p X.f w.heap.size (w.heap.size+1)):Calls prog 43 #[p.ptr] w λe w'=>∃l':List Nat,l'.Perm (dirL X.f p.n)/\(∀i j (hi:i<l'.length) (hj:j<l'.length),i<j->¬(X.f l'[j]).id<(X.f l'[i]).id)/\e=.returned (.int .i64 (X.flushL l').1)/\Led (PW RR ok p (X.flushL l').2 (m+100)) F w w':=by
 have HD:=Hd (pM H.1.me hs);have HF0:Hid (∀w2,Fr NoF w w2->PW RR ok p X m w2 F):=λw2 g=>H.fr0 S g
 have KC:Hid (∀(Y:PS τ) j k w2 F2,PW RR ok p Y j w2 F2->j<65000->k<p.n->Calls prog 71 #[p.ptr,.int .i64 k] w2 λe w'=>e=.returned (.int .i64 (Y.clean k).1)/\Led (PW RR ok p (Y.clean k).2 (j+1)) F2 w2 w'):=λY j k w2 F2 h hj hk=>
  pB S h (by omega) hk (λhd q=>by rw[h.2.1.em k hk q]at hd;cases hd)
 have KM:Hid (∀(Y:PS τ) j k w2 F2,PW RR ok p Y j w2 F2->j<=k->PW RR ok p Y k w2 F2):=λY j k w2 F2 h hj=>h.more S hj
 have hFl:=H.1.lt S;have HFL:=Hd hFl;have HX:=Hd (show CT p.n X=CT p.n X from rfl);rw[show(CT p.n X).f=X.f from rfl]at HD;unfold PP.ptr at*;clear H S hs hFl;go_enter func43,ntmps43
 go_wp2_with fail
 refine HD.out.mono ?_;rintro e w2⟨v,l,rfl,d1,d2,d3,d4,d5⟩;obtain⟨sa,sc,rfl,s1,s2⟩:=SlK.shape d3;have hlen:l.length<=p.n:=by rw[d1.length_eq];exact oJ _ _
 have D1:=Hd d1;have D2:=Hd d2;have D3:=Hd d3;have D4:=Hd d4;have D5:=Hd d5;have HSC:=Hd s2;have HMEM:Hid (∀x∈l,x<p.n):=λx hx=>(iN.1 (d1.mem_iff.1 hx)).1
 clear d1 d2 d3 d4 d5 HD s2
 go_wp2_with fail
 go_loopw [3,11] (λo i wr=>∃k:Nat,k<=l.length/\i=.int .i64 k/\o=.int .i64 (X.flushL (l.take k)).1/\Led (PW RR ok p (X.flushL (l.take k)).2 (m+k)) F w2 wr) (λ_ i _=>l.length-(intOf i).toNat)
 case atStart=>exact⟨0,Nat.zero_le _,rfl,by simp[PS.flushL],by simp only[List.take_zero];exact Led.refl (HF0.out w2 D5.out)⟩
 case round=>
  obtain⟨k,hk,rfl,rfl,F3,h3,g3,q3⟩:=hrel;have lb:=h3.1.me.hd.lt;have G3:=Hd g3;have Q3:=Hd q3;by_cases hlt:k<l.length
  .have hlt':(k:Int)<(l.length:Int):=by omega
   obtain⟨b,off,c,ev,z1,z2,z3,z4⟩:=(SlK.fr D3.out g3 (λb q e=>by have h9:=D4.out b q;have h10:=HFL.out b e;omega)).at hlt;simp only[Value.slice.injEq]at ev;obtain⟨rfl,_,rfl⟩:=ev;have hnx:=qf X l hlt;have HC:=Hd (KC.out _ _ l[k] wr F3 h3 (by omega) (HMEM.out _ (List.getElem_mem hlt)));generalize l[k]=fk at*;generalize X.flushL (l.take k)=Y at*;have HNX:=Hd hnx;clear h3 g3 q3 hnx;unfold maxLen at z2;have HZ2:=Hd z2;clear z2
   go_wp2_with fail
   refine HC.out.mono ?_;rintro e w4⟨rfl,h4⟩;have H4:=Hd (Led.trans G3.out Q3.out h4);clear h4 HC;by_cases hz:(Y.2.clean fk).1=0
   .have hz':((((Y.2.clean fk).1:Nat):Int)==0)=true:=by simp[hz]
    have hz2:((((Y.2.clean fk).1:Nat):Int) !=0)=false:=by simp[hz]
    have hz3:(((Y.2.clean fk).1:Nat):Int)=0:=by omega
    go_wp2
    go_roundw
    case rel=>exact⟨k+1,by omega,by go_num,by rw[HNX.out];unfold flF;dsimp only;rw[if_pos hz],by rw[HNX.out];exact H4.out⟩
    case measure=>simp[intOf];omega
   .have hz':((((Y.2.clean fk).1:Nat):Int)==0)=false:=by simp<;>exact hz
    go_wp2
    go_roundw
    case rel=>exact⟨k+1,by omega,by go_num,by rw[HNX.out];unfold flF;dsimp only;rw[if_neg hz];rfl,by rw[HNX.out];exact H4.out⟩
    case measure=>simp[intOf];omega
  .obtain rfl:k=l.length:=by omega
   rw[List.take_length]at h3;have H3:=Hd (KM.out _ _ (m+100) wr F3 h3 (by omega));clear h3 g3 q3;rw[List.take_length];go_wp2;go_returns;exact⟨l,D1.out,D2.out,rfl,Led.trans (D5.out.mono (λ_ q=>q.elim)) (λi q=>.inl q) ⟨F3,H3.out,G3.out,Q3.out⟩⟩
end
end
section
open Go.Maps Go.RowKit
structure AM where
 ids:List Nat
 val:Nat->Nat
 pin:Nat->Nat
 room:Nat
def AM.pinned(M:AM):List Nat:=M.ids.filter (λx=>decide (¬M.pin x=0))
def AM.full(n:Nat)(M:AM):Bool:=decide (n<=M.pinned.length)
noncomputable def AM.gap(M:AM):Nat:=ag (M.ids.map (λx=>(x,0)))
def outI(l:List Nat)(x:Nat):List Nat:=match l.findIdx? (λy=>y==x)with|none=>l|some k=>l.take k++l.drop (k+1)
noncomputable def AM.newPage(n:Nat)(M:AM):(Nat×Nat)×AM:=
 if M.full n=true then((0,6),M)else if M.room<=M.ids.length then((0,2),M)
 else((M.gap+1,0),{M with ids:=M.ids.take M.gap++[M.gap+1]++M.ids.drop M.gap,val:=upd M.val (M.gap+1) 0,pin:=upd M.pin (M.gap+1) 1})
def AM.fetch(n:Nat)(M:AM)(id:Nat):Nat×AM:=
 if id∈M.ids then(if M.pin id=0/\M.full n=true then(6,M)else(0,{M with pin:=upd M.pin id (M.pin id+1)}))else(3,M)
def AM.held(M:AM)(id:Nat):Nat:=if id∈M.ids then(if M.pin id=0 then 5 else 0)else 3
def AM.unpin(M:AM)(id:Nat):Nat×AM:=if M.held id=0 then(0,{M with pin:=upd M.pin id (M.pin id-1)})else(M.held id,M)
def AM.read(M:AM)(id:Nat):Nat×Nat:=if M.held id=0 then(M.val id,0)else(0,M.held id)
def AM.write(M:AM)(id v:Nat):Nat×AM:=if M.held id=0 then(0,{M with val:=upd M.val id v})else(M.held id,M)
def AM.flush(M:AM)(id:Nat):Nat:=if id∈M.ids then 0 else 3
def AM.delete(M:AM)(id:Nat):Nat×AM:=
 if id∈M.ids then(if M.pin id=0 then(0,{M with ids:=outI M.ids id})else(4,M))else(3,M)
theorem jk(a:Nat×Nat)(l:List (Nat×Nat))(x:Nat):aw (a::l) x=if a.1=x then a.2 else aw l x:=by
 unfold aw atP;rw[List.findIdx?_cons];by_cases e:a.1=x
 .simp[e]
 .have:(a.1==x)=false:=by simp[e]
  rw[this,if_neg e];simp only[Bool.false_eq_true,if_false]
  cases l.findIdx? (λp=>p.1==x)with
  |none=>rfl
  |some j=>simp
theorem qY(A B:List (Nat×Nat))(p:Nat×Nat){x:Nat}(h:¬x=p.1):aw (A++p::B) x=aw (A++B) x:=by
 induction A with
 |nil=>rw[List.nil_append,List.nil_append,jk,if_neg (λe=>h e.symm)]
 |cons a A ih=>rw[List.cons_append,List.cons_append,jk,jk,ih]
structure rZ(D:RS):Prop where
 st:D.stops=false
 nr:D.nr=[]
 ns:D.ns=[]
theorem dn(D:RS)(id:Nat):D.has id=true↔id∈D.ids:=D.has_iff id
theorem gj{D:RS}{id:Nat}(h:id∈D.ids):∃A v B,D.L=A++(id,v)::B/\(∀p∈A,¬p.1=id)/\atP D.L id=some A.length/\aw D.L id=v:=by
 rcases atP_of (l:=D.L) (id:=id)with⟨h1,h2⟩|q
 .obtain⟨p,hp,e⟩:=List.mem_map.1 h
  exact(h2 p hp e).elim
 .exact q
theorem lq{D:RS}{id:Nat}(F:rZ D)(h:id∈D.ids)(v:Nat):(D.write id v).1=0/\rZ (D.write id v).2/\(D.write id v).2.ids=D.ids/\(D.write id v).2.room=D.room/\∀x,aw (D.write id v).2.L x=if x=id then v else aw D.L x:=by
 obtain⟨A,u,B,e1,e2,e3,e4⟩:=gj h;have hs:D.stopped=false:=by unfold RS.stopped;rw[F.st];rfl
 have hf:(bn D.ns id).2=false:=by rw[F.ns];rfl
 have hw:D.write id v=(0,{D with L:=D.L.set A.length ((D.L.getD A.length (0,0)).1,v),wr:=D.wr+1,left:=D.left-1}):=by
  unfold RS.write;rw[e3];simp only[hs,hf,Bool.false_eq_true,if_false]
 have hL:D.L.set A.length ((D.L.getD A.length (0,0)).1,v)=A++(id,v)::B:=by
  rw[e1];have:(A++(id,u)::B).getD A.length (0,0)=(id,u):=by simp[List.getD]
  rw[this];simp
 refine⟨by rw[hw],by rw[hw];exact⟨F.st,F.nr,F.ns⟩,(RS.write_ids D id v).1,(RS.write_ids D id v).2,λx=>?_⟩;rw[hw]
 show aw (D.L.set A.length ((D.L.getD A.length (0,0)).1,v)) x=_
 rw[hL];by_cases c:x=id
 .subst c;rw[if_pos rfl,cb e2]
 .rw[if_neg c,e1];exact lH c
theorem nC{D:RS}{id:Nat}(F:rZ D)(h:id∈D.ids):(D.read id).1=(aw D.L id,0)/\rZ (D.read id).2/\(D.read id).2.ids=D.ids/\(D.read id).2.room=D.room/\(D.read id).2.L=D.L:=by
 obtain⟨A,u,B,e1,e2,e3,e4⟩:=gj h;have hs:D.stopped=false:=by unfold RS.stopped;rw[F.st];rfl
 have hf:(bn D.nr id).2=false:=by rw[F.nr];rfl
 have hw:D.read id=(((D.L.getD A.length (0,0)).2,0),{D with rd:=D.rd+1,left:=D.left-1}):=by
  unfold RS.read;rw[e3];simp only[hs,hf,Bool.false_eq_true,if_false]
 refine⟨?_,by rw[hw];exact⟨F.st,F.nr,F.ns⟩,by rw[hw];rfl,by rw[hw],by rw[hw]⟩;rw[hw]
 show((D.L.getD A.length (0,0)).2,0)=_
 rw[e4,e1];simp[List.getD]
theorem Al(D:RS)(k:Nat):(D.ins k).ids=D.ids.take k++[k+1]++D.ids.drop k/\∀x,¬x=k+1->aw (D.ins k).L x=aw D.L x:=by
 constructor
 .unfold RS.ids RS.ins
  simp only[List.map_append,List.map_cons,List.map_nil,List.map_take,List.map_drop]
 .intro x hx
  unfold RS.ins
  dsimp only
  rw[List.append_assoc,List.singleton_append,qY _ _ _ hx,List.take_append_drop]
theorem xV{D:RS}{id:Nat}(h:id∈D.ids):(D.free id).1=0/\(D.free id).2.ids=outI D.ids id/\(D.free id).2.room=D.room/\(D.free id).2.stops=D.stops/\(D.free id).2.nr=D.nr/\(D.free id).2.ns=D.ns/\∀x,¬x=id->aw (D.free id).2.L x=aw D.L x:=by
 obtain⟨A,u,B,e1,e2,e3,e4⟩:=gj h
 have hw:D.free id=(0,{D with L:=D.L.take A.length++D.L.drop (A.length+1)}):=by
  unfold RS.free;rw[e3]
 have hL:D.L.take A.length++D.L.drop (A.length+1)=A++B:=by
  rw[e1];simp
 refine⟨by rw[hw],?_,by rw[hw],by rw[hw],by rw[hw],by rw[hw],λx hx=>?_⟩
 .rw[hw]
  show((D.L.take A.length++D.L.drop (A.length+1)).map (·.1))=_
  have:D.ids.findIdx? (λy=>y==id)=some A.length:=by
   unfold RS.ids;rw[List.findIdx?_map];exact e3
  unfold outI;rw[this];unfold RS.ids;simp only[List.map_append,List.map_take,List.map_drop]
 .rw[hw]
  show aw (D.L.take A.length++D.L.drop (A.length+1)) x=_
  rw[hL,e1,qY _ _ _ hx]
theorem DM{L L':List (Nat×Nat)}(h:L.map (·.1)=L'.map (·.1)):ag L=ag L':=by
 have hl:L.length=L'.length:=by have:=congrArg List.length h;simpa using this
 have hg:∀j (h1:j<L.length) (h2:j<L'.length),L[j].1=L'[j].1:=λj h1 h2=>by
  have e:(L.map (·.1))[j]?=(L'.map (·.1))[j]?:=by rw[h]
  rw[List.getElem?_map,List.getElem?_map,List.getElem?_eq_getElem h1,List.getElem?_eq_getElem h2]at e;simpa using e
 have g:=cC L;refine Gap.same (L:=L') ⟨by rw[<-hl];exact g.le,λj hj hk=>?_,λhk=>?_⟩ (cC L')
 .rw[<-hg j (by omega) hj];exact g.all j (by omega) hk
 .rw[<-hg _ (by omega) hk];exact g.not (by omega)
theorem mC{D:RS}(h:∃s,bv s D):D.ids.Nodup:=by
 obtain⟨s,hs⟩:=h;unfold RS.ids;rw[hs.L];unfold plL plR;rw[List.map_map];refine List.Pairwise.map _ (R:=λa b=>¬a=b) (λa b q e=>q ?_) (List.Pairwise.filter _ List.nodup_range');simpa using e
def cP(n:Nat)(f:Nat->FrS)(id:Nat):Nat:=match frm n f id with|some k=>(f k).pins|none=>0
def seenF(n:Nat)(f:Nat->FrS)(L:List (Nat×Nat))(id:Nat):Nat:=match frm n f id with|some k=>(f k).val|none=>aw L id
section
variable{n k id:Nat}{f:Nat->FrS}{D:RS}{x:FrS}{L:List (Nat×Nat)}
theorem qw(H:Inv n f D)(hk:k<n)(h0:¬(f k).id=0)(hx:x.id=(f k).id):frm n (upd f k x) id=frm n f id/\(id=(f k).id->frm n f id=some k)/\(¬id=(f k).id->∀j,frm n f id=some j->¬j=k):=
 ⟨i3 hk hx id,λe=>H.atf hk e.symm (e▸h0),λe j hj c=>by
  obtain⟨_,q⟩:=bQ hj;rw[c]at q;exact e q.symm⟩
theorem ny(H:Inv n f D)(hk:k<n)(h0:¬(f k).id=0)(hx:x.id=(f k).id):cP n (upd f k x) id=if id=(f k).id then x.pins else cP n f id:=by
 obtain⟨e1,e2,e3⟩:=qw (id:=id) H hk h0 hx;unfold cP;rw[e1];by_cases c:id=(f k).id
 .rw[if_pos c,e2 c];simp only[upd_same]
 .rw[if_neg c]
  cases q:frm n f id with
  |none=>rfl
  |some j=>simp only[aa _ _ (e3 c j q)]
theorem kx(H:Inv n f D)(hk:k<n)(h0:¬(f k).id=0)(hx:x.id=(f k).id):seenF n (upd f k x) L id=if id=(f k).id then x.val else seenF n f L id:=by
 obtain⟨e1,e2,e3⟩:=qw (id:=id) H hk h0 hx;unfold seenF;rw[e1];by_cases c:id=(f k).id
 .rw[if_pos c,e2 c];simp only[upd_same]
 .rw[if_neg c]
  cases q:frm n f id with
  |none=>rfl
  |some j=>simp only[aa _ _ (e3 c j q)]
theorem qG(H:Inv n f D)(hk:k<n)(h0:¬(f k).id=0)(h1:1<=id):frm n (upd f k zF) id=if id=(f k).id then none else frm n f id:=by
 by_cases c:id=(f k).id
 .rw[if_pos c]
  apply cA;intro i hi e;by_cases d:i=k
  .rw[d,upd_same]at e
   have:(0:Nat)=id:=e;omega
  .rw[aa _ _ d]at e
   exact d (H.inj k i hk hi h0 (by rw[e,c])).symm
 .rw[if_neg c]
  exact ie hk (λi hi=>aa _ _ hi) (λe=>c e.symm) (by rw[upd_same];show¬0=id;omega)
theorem kc(hj:frm n f id=some k){i:Nat}(h:¬(f i).id=id):¬k=i:=λe=>h (e▸(bQ hj).2)
theorem nG(H:Inv n f D)(hk:k<n)(h0:¬(f k).id=0)(h1:1<=id):cP n (upd f k zF) id=if id=(f k).id then 0 else cP n f id:=by
 unfold cP;rw[qG H hk h0 h1];by_cases c:id=(f k).id
 .rw[if_pos c,if_pos c]
 .rw[if_neg c,if_neg c]
  cases q:frm n f id with
  |none=>rfl
  |some j=>simp only[aa _ _ (kc q (λe=>c e.symm))]
theorem lB(H:Inv n f D)(hk:k<n)(h0:¬(f k).id=0)(h1:1<=id):seenF n (upd f k zF) L id=if id=(f k).id then aw L id else seenF n f L id:=by
 unfold seenF;rw[qG H hk h0 h1];by_cases c:id=(f k).id
 .rw[if_pos c,if_pos c]
 .rw[if_neg c,if_neg c]
  cases q:frm n f id with
  |none=>rfl
  |some j=>simp only[aa _ _ (kc q (λe=>c e.symm))]
theorem qX(H:Inv n f D)(hk:k<n)(h0:(f k).id=0)(hx:1<=x.id)(hno:∀i,i<n->¬(f i).id=x.id)(h1:1<=id):frm n (upd f k x) id=if id=x.id then some k else frm n f id:=by
 by_cases c:id=x.id
 .rw[if_pos c]
  subst c
  have:fstB n (λi=>decide ((upd f k x i).id=x.id))=some k:=by
   unfold fstB
   cases e:(List.range n).find? (λi=>decide ((upd f k x i).id=x.id))with
   |none=>
    have:=List.find?_eq_none.1 e k (List.mem_range.2 hk);simp[upd_same]at this
   |some j=>
    have h2:=List.find?_some e;have h3:=List.mem_range.1 (List.mem_of_find?_eq_some e);by_cases d:j=k
    .rw[d]
    .simp only[aa _ _ d,decide_eq_true_eq]at h2
     exact(hno j h3 h2).elim
  exact this
 .rw[if_neg c]
  exact ie hk (λi hi=>aa _ _ hi) (by rw[h0];omega) (by rw[upd_same];exact λe=>c e.symm)
theorem wU(H:Inv n f D)(hk:k<n)(h0:(f k).id=0)(hx:1<=x.id)(hno:∀i,i<n->¬(f i).id=x.id)(h1:1<=id):cP n (upd f k x) id=if id=x.id then x.pins else cP n f id:=by
 unfold cP;rw[qX H hk h0 hx hno h1];by_cases c:id=x.id
 .rw[if_pos c,if_pos c];simp only[upd_same]
 .rw[if_neg c,if_neg c]
  cases q:frm n f id with
  |none=>rfl
  |some j=>simp only[aa _ _ (kc q (i:=k) (by rw[h0];omega))]
theorem rI(H:Inv n f D)(hk:k<n)(h0:(f k).id=0)(hx:1<=x.id)(hno:∀i,i<n->¬(f i).id=x.id)(h1:1<=id):seenF n (upd f k x) L id=if id=x.id then x.val else seenF n f L id:=by
 unfold seenF;rw[qX H hk h0 hx hno h1];by_cases c:id=x.id
 .rw[if_pos c,if_pos c];simp only[upd_same]
 .rw[if_neg c,if_neg c]
  cases q:frm n f id with
  |none=>rfl
  |some j=>simp only[aa _ _ (kc q (i:=k) (by rw[h0];omega))]
end
structure Abs{τ:Type}(n:Nat)(X:PS τ)(M:AM):Prop where
 inv:Inv n X.f X.D
 ids:X.D.ids=M.ids
 room:X.D.room=M.room
 pin:∀id,1<=id->M.pin id=cP n X.f id
 val:∀id,1<=id->id∈M.ids->M.val id=seenF n X.f X.D.L id
 cl:∀i,i<n->¬(X.f i).id=0->(X.f i).dirty=false->aw X.D.L (X.f i).id=(X.f i).val
 fine:rZ X.D
section
variable{τ:Type}{P:Adv τ}{n k id v:Nat}{X:PS τ}{M:AM}
theorem Abs.pos(A:Abs n X M)(h:id∈M.ids):1<=id:=A.inv.pos ((dn _ _).2 (by rw[A.ids];exact h))
theorem Abs.has(A:Abs n X M)(id:Nat):X.D.has id=decide (id∈M.ids):=by
 cases e:X.D.has id with
 |true=>rw[<-A.ids];simp[(dn _ _).1 e]
 |false=>
  have:¬id∈M.ids:=λq=>by rw[(dn _ _).2 (by rw[A.ids];exact q)]at e;cases e
  simp[this]
theorem Abs.sub{τ':Type}(A:Abs n X M){X':PS τ'}(e1:X'.f=X.f)(e2:X'.D=X.D):Abs n X' M:=by
 obtain⟨f',D',A',sc'⟩:=X';simp only at e1 e2;subst e1 e2;exact⟨A.inv,A.ids,A.room,A.pin,A.val,A.cl,A.fine⟩
theorem Abs.fullE(A:Abs n X M):X.all n=M.full n:=by
 have hnd:M.ids.Nodup:=by rw[<-A.ids];exact mC A.inv.dr
 have hJ:(((List.range n).filter (λi=>decide (¬(X.f i).id=0)&&decide (¬(X.f i).pins=0))).map (λi=>(X.f i).id)).Perm M.pinned:=by
  refine(List.perm_ext_iff_of_nodup ?_ (hnd.filter _)).2 (λid=>?_)
  .have hn:=List.Pairwise.filter (λi=>decide (¬(X.f i).id=0)&&decide (¬(X.f i).pins=0)) (List.nodup_range (n:=n))
   refine List.pairwise_map.2 (List.Pairwise.imp_of_mem (λ{a b} ha hb hab e=>?_) hn);obtain⟨a1,a2⟩:=List.mem_filter.1 ha;obtain⟨b1,b2⟩:=List.mem_filter.1 hb;simp at a2;exact hab (A.inv.inj a b (List.mem_range.1 a1) (List.mem_range.1 b1) a2.1 e)
  .rw[List.mem_map,List.mem_filter]
   constructor
   .rintro⟨i,hi,rfl⟩
    obtain⟨i1,i2⟩:=List.mem_filter.1 hi;have i1:=List.mem_range.1 i1;simp at i2;have hm:(X.f i).id∈M.ids:=by rw[<-A.ids];exact(dn _ _).1 (A.inv.has i i1 i2.1)
    refine⟨hm,?_⟩;have hp:=A.pin (X.f i).id (by omega);unfold cP at hp;rw[A.inv.atf i1 rfl i2.1]at hp;simp[hp,i2.2]
   .rintro⟨h1,h2⟩
    have h2:¬M.pin id=0:=by simpa using h2
    have hp:=A.pin id (A.pos h1);unfold cP at hp
    cases e:frm n X.f id with
    |none=>rw[e]at hp;exact(h2 hp).elim
    |some j=>
     rw[e]at hp;obtain⟨j1,j2⟩:=bQ e;have:=A.pos h1;refine⟨j,List.mem_filter.2 ⟨List.mem_range.2 j1,?_⟩,j2⟩;have hp:M.pin id=(X.f j).pins:=hp;simp;omega
 have hl:M.pinned.length=((List.range n).filter (λi=>decide (¬(X.f i).id=0)&&decide (¬(X.f i).pins=0))).length:=by rw[<-hJ.length_eq,List.length_map]
 unfold AM.full;rw[hl]
 have key:X.all n=true↔∀i,i<n->(decide (¬(X.f i).id=0)&&decide (¬(X.f i).pins=0))=true:=by
  unfold PS.all;constructor
  .intro h i hi
   simp only[Bool.and_eq_true,Option.isNone_iff_eq_none]at h;have q1:=bL h.1 i hi;have q2:=bL h.2 i hi;rw[dC hi]at q1;rw[dm hi]at q2;simp at q1 q2⊢;exact⟨q1,q2 q1⟩
  .intro h
   simp only[Bool.and_eq_true,Option.isNone_iff_eq_none];constructor
   .unfold fstB
    rw[List.find?_eq_none];intro i hi;have hi:=List.mem_range.1 hi;have:=h i hi;rw[dC hi];simp at this⊢;exact this.1
   .unfold fstB
    rw[List.find?_eq_none];intro i hi;have hi:=List.mem_range.1 hi;have:=h i hi;rw[dm hi];simp at this⊢;exact λ_=>this.2
 have hle:=List.length_filter_le (λi=>decide (¬(X.f i).id=0)&&decide (¬(X.f i).pins=0)) (List.range n);rw[List.length_range]at hle
 have hiff:(n<=((List.range n).filter (λi=>decide (¬(X.f i).id=0)&&decide (¬(X.f i).pins=0))).length)↔X.all n=true:=by
  rw[key];constructor
  .intro h i hi
   have he:((List.range n).filter (λi=>decide (¬(X.f i).id=0)&&decide (¬(X.f i).pins=0))).length=(List.range n).length:=by rw[List.length_range];omega
   exact List.length_filter_eq_length_iff.1 he i (List.mem_range.2 hi)
  .intro h
   have:(List.range n).filter (λi=>decide (¬(X.f i).id=0)&&decide (¬(X.f i).pins=0))=List.range n:=List.filter_eq_self.2 (λi hi=>h i (List.mem_range.1 hi));rw[this,List.length_range];exact Nat.le_refl _
 cases e:X.all n with
 |true=>rw[decide_eq_true (hiff.2 e)]
 |false=>rw[decide_eq_false (λq=>by rw[hiff.1 q]at e;cases e)]
end
end
end Go.Proofs.YtoenclhimbpfeaaGreatDoor
