/- Part 42. -/
import Derived.Test.YtpkbkhffglikhaaGreatDoorM29
import Derived.Test.YtpkbkhffglikhaaGreatDoorM37
import Derived.Test.YtpkbkhffglikhaaGreatDoorM39
import Derived.Test.YtpkbkhffglikhaaGreatDoorM40
import Derived.Test.YtpkbkhffglikhaaGreatDoorM41
import Derived.Shelf.SlSortCmp.NoneTotal
namespace Go.Proofs.YtpkbkhffglikhaaGreatDoor
set_option linter.all false
set_option maxHeartbeats 16000000
set_option maxRecDepth 100000
section
open Go.Maps Go.Proofs.Tryz Go.RowKit
theorem good_of{τ:Type}{P:Pol τ}{pre:τ->Cl->Prop}{n:Nat}{ok:Nat->τ->(Nat->Nat)->(Nat->Bool)->Prop}(O:OkSys P pre n ok):Good0 (advOf P) n ok:=λm s pg ev id h hx=>by
 cases e:P.victim s id with
 |none=>exact(O.some h hx e).elim
 |some a=>exact⟨a,e,O.goer h e⟩
def NewRep(n:Nat)(q:Bool)(rv:Value)(w:World)(F:Nat->Prop):Prop:=
 (∃it iv,rv=.iface it iv)/\∃(τ:Type) (P:Adv τ) (RR:World->τ->(Nat->Prop)->Prop) (ok:Nat->τ->(Nat->Nat)->(Nat->Bool)->Prop) (s:τ),(∀pb,RepSys P RR pb rv n ok)/\RR w s F/\ok 1000 s (λ_=>0) (λ_=>true)/\(q=true->Good0 P n ok)
theorem rows_0{n:Nat}{r:Nat->Prop}{page:Nat->Nat}{e:Nat->Bool}(hr:∀f,¬r f)(he:∀f,e f=false):RowsOk n r page e (λ_=>0) (λ_=>true):=
 ⟨λf=>⟨λq=>(hr f q).elim,λq=>(q.2 rfl).elim⟩,λf q=>(hr f q).elim,λf q=>(hr f q).elim,λf _=>he f⟩
theorem new4{n b:Nat}{w:World}{F:Nat->Prop}(h:LRu w b n [] (λ_=>false) F):NewRep n true (repV4 b) w F:=
 ⟨⟨_,_,rfl⟩,LT,advOf lruPol,lruCR b n,ok4 n,([],λ_=>false),λpb=>rep4 pb b n,h,⟨λ_=>0,rows_0 (λf q=>by cases q) (λ_=>rfl)⟩,λ_=>good_of (okS4 n)⟩
theorem cntR_0(n:Nat):cntR (λ_=>none) n=0:=by
 induction n with
 |zero=>rfl
 |succ n ih=>unfold cntR;rw[ih];rfl
theorem new5{n K near kept b:Nat}{w:World}{F:Nat->Prop}(h:CRL w b (newS n K near kept) F):NewRep n true (repV5 b) w F:=by
 refine⟨⟨_,_,rfl⟩,LK,advOf polL,CR5 b,ok5 n,newS n K near kept,λpb=>rep5 pb b n,?_,?_,λ_=>good_of (okS5 n)⟩
 .exact⟨by show 0<800000;omega,λ_=>false,λx a b q _=>(by cases q),h⟩
 .refine⟨rfl,Nat.zero_le _,Nat.zero_le _,λf hf=>rfl,λf hf q=>(q rfl).elim,λf=>⟨λq=>(by cases q),λq=>(q.2.1 rfl).elim⟩,?_,λf hf q=>(q rfl).elim,λf g hf hg q=>(q rfl).elim⟩
  exact(cntR_0 n).symm
theorem new6{n inn out b:Nat}{w:World}{F:Nat->Prop}(h:CRT b n inn out w t60 F):NewRep n true (repV6 b) w F:=
 ⟨⟨_,_,rfl⟩,T6,advOf (polT inn out),CRT b n inn out,ok6 n,t60,λpb=>rep6 pb b n inn out,h,rows_0 (λf q=>by rcases q with q|q<;>cases q) (λ_=>rfl),λ_=>good_of (okS6 n inn out)⟩
theorem new7{n b:Nat}{w:World}{F:Nat->Prop}(h:CRA b n w t70 F):NewRep n true (repV7 b) w F:=
 ⟨⟨_,_,rfl⟩,T7,advOf (polA n),CRA b n,ok7 n,t70,λpb=>rep7 pb b n,h,rows_0 (λf q=>by rcases q with q|q<;>cases q) (λ_=>rfl),λ_=>good_of (okS7 n)⟩
theorem new8{n b:Nat}{w:World}{F:Nat->Prop}(h1:1<=n)(hn:n<=30000)(h:CRP b n w (pr0 n) F):NewRep n true (repV8 b) w F:=
 ⟨⟨_,_,rfl⟩,PrS,advOf (polC n),CRP b n,ok8 n,pr0 n,λpb=>rep8 pb b n hn,h,⟨(pk0 h1).1,(pk0 h1).2,λf hf=>rfl,λf hf q=>(q rfl).elim⟩,λ_=>good_of (okS8 n)⟩
theorem newA{n lb:Nat}{w:World}{l:List Int}{F:Nat->Prop}(h:AR lb w l F):NewRep n false (advV lb) w F:=
 ⟨⟨_,_,rfl⟩,List Int,advP,AR lb,okTd,l,λpb=>adv_sys pb lb n,h,trivial,λq=>by cases q⟩
def am0(room:Nat):AM:=⟨[],λ_=>0,λ_=>0,room⟩
theorem abs_0{τ:Type}{n room:Nat}{a:τ}(hI:Inv n (λ_=>zF) ⟨room,[],[],[],0,0,false,0⟩):Abs n ⟨λ_=>zF,⟨room,[],[],[],0,0,false,0⟩,a,0⟩ (am0 room):=
 ⟨hI,rfl,rfl,λid h1=>by
  show 0=pinF n (λ_=>zF) id
  rw[pinF_no (λi _ q=>by have:(0:Nat)=id:=q;omega)],λid _ hm=>(by cases hm),λi _ h0=>(h0 rfl).elim,⟨rfl,rfl,rfl⟩⟩
theorem inv_0(n:Nat){room:Nat}(h:room<=65535):Inv n (λ_=>zF) ⟨room,[],[],[],0,0,false,0⟩:=by
 refine⟨λi hi h=>rfl,λi hi h=>absurd rfl h,λi j hi hj h=>absurd rfl h,⟨dk0 room,?_⟩,λx hx=>(by cases hx),λi hi=>by decide⟩;exact⟨rfl,rfl,rfl,rfl,rfl,λq=>(by cases q),λid _ _=>rfl,λid _ _=>rfl,Nat.zero_le _⟩
theorem any_new{q:Bool}{room n db m0:Nat}{rv:Value}{w:World}{FD FA:Nat->Prop}(hcd:CD db ⟨room,[],[],[],0,0,false,0⟩ m0 w FD)(hm0:m0<=1000)(hr:NewRep n q rv w FA)(hs:∀i,FD i->¬FA i)(ht:TabT w)(ht1:¬FD 0/\¬FA 0)(hn:1<=n/\n<=65535)(hroom:room<=65535):
  Calls prog 19 #[.pointer (some ⟨db,0,none⟩),.int .i64 n,rv] w λe w'=>∃p:PP,p.n=n/\p.db=db/\p.rv=rv/\e=.returned (.tuple #[p.ptr,.int .i64 0])/\(∃F,AnyK p q 0 0 (λ_=> -1) (am0 room) 1000 w' F/\(∀i,F i->FD i\/FA i\/w.heap.size<=i))/\Fr NoF w w':=by
 obtain⟨⟨it,iv,hiv⟩,τ,P,RR,ok,s,h1,h2,h3,h4⟩:=hr;refine(pnew_pw hcd hm0 h2 (λh f=>(h1 0).fr h f (λ_ _ q=>q)) ((h1 0).lt h2) hs ht ht1 hiv hn (Nat.zero_le _) (inv_0 n hroom) h3).mono ?_;rintro e w'⟨p,e1,e2,e3,he,⟨F,k1,k2⟩,f⟩;refine⟨p,e1,e2,e3,he,⟨F,⟨τ,P,RR,ok,_,by rw[e1,e3];exact h1 _,k1,by rw[e1];exact abs_0 (inv_0 n hroom),λx _=>rfl,λhq=>⟨rfl,by rw[e1];exact h4 hq⟩,rfl,(by show 0+drt p.n (λ_=>zF)<=0;rw[drt_0];exact Nat.le_refl _),λid=>rfl⟩,k2⟩,f⟩
end
section
open Go.Proofs.Tryz Go.RowKit
theorem infoBool:(prog.info? 4).map (λi=>(i.zero,i.size,i.bytes))=some (some (.bool false),1,1):=by kernel_rfl
theorem lru_new_yes(n:Nat)(w:World)(h1:1<=n)(hn:n<=65535):
  Calls prog 34 #[.int .i64 n] w λe w'=>∃b F,e=.returned (.tuple #[.pointer (some ⟨b,0,none⟩),.int .i64 0])/\LRu w' b n [] (λ_=>false) F/\(∀i,F i->w.heap.size<=i)/\Fr NoF w w':=by
 obtain⟨i0,hi,hz0,hz1,hz2⟩:=info_parts infoBool
 have mk1:∀w:World,(Instr.makeSlice 98 (.int .i64 (n:Int)) (.int .i64 (n:Int))).run prog w=
   .ok (.slice (some ⟨w.heap.size,0,none⟩) n n) (w.alloc (.cells (madeCells #[.bool false] n) 4)):=by
  intro w;have:=run_make (P:=prog) w 98 4 i0 _ underlying98 hi hz0 .i64 .i64 (n:Int) (n:Int) (by omega) (Int.le_refl _) (by rw[hz2];omega) (by omega);rw[show((n:Int)).toNat=n from by omega,hz1,Nat.mul_one]at this;exact this
 have MK:=Hd mk1;have HN:=Hd (new_yes n 1 w (by omega) (by omega) (by omega));clear mk1 hi hz0 hz1 hz2;go_enter func34,ntmps34
 go_wp2_with fail
 refine HN.out.mono ?_;clear HN;rintro e w1⟨rb,FR,rfl,hR,hF,hf⟩;have HR:=Hd hR;have HF:=Hd hF;have HFr:=Hd hf;have mk1:=MK.out w1;clear hR hF hf;go_wp2;go_returns;have hz:=HFr.out.size;have hfA:Fr NoF w1 ((w1.alloc (.cells (madeCells #[.bool false] n) 4)).alloc (.cells #[.pointer (some ⟨rb,0,none⟩),.slice (some ⟨w1.heap.size,0,none⟩) n n,.int .i64 0] 119)):=((Fr.refl _ _).alloc _).alloc _;have hlt:=HR.out.lt;refine⟨w1.heap.size+1,λi=>i=w1.heap.size+1\/i=w1.heap.size\/FR i,rfl,⟨rb,w1.heap.size,FR,⟨?_,?_,HR.out.fr hfA (λ_ _ q=>q),by omega,λq=>by have:=hlt _ q;omega,λq=>by have:=hlt _ q;omega,λf hf=>(by cases hf),hn⟩,λ_=>Iff.rfl⟩,?_,HFr.out.trans hfA (λ_ q=>q.elim)⟩
 .refine Blk.new _ _ _ 3 _ _ (by simp) rfl (λi hi=>?_)
  match i,hi with
  |0,_=>rfl
  |1,_=>rfl
  |2,_=>rfl
 .refine(Blk.new _ _ _ n _ _ rfl (by simp[size_madeCells]) (λi hi=>?_)).alloc _
  rw[made_get hi,show(#[Value.bool false]:Array Value).size=1 from rfl,Nat.mod_one];rfl
 .intro i hi
  rcases hi with rfl|rfl|q
  .omega
  .omega
  .exact HF.out i q
end
section
open Go.Maps Go.Proofs.Tryz Go.RowKit
section
variable{w w':World}{n:Nat}
theorem n4(w:World)(h:1<=n/\n<=6):Calls prog 34 #[.int .i64 n] w λe w'=>∃b F,e=.returned (.tuple #[.pointer (some ⟨b,0,none⟩),.int .i64 0])/\NewRep n true (repV4 b) w' F/\(∀i,F i->w.heap.size<=i)/\Fr NoF w w':=
 (lru_new_yes n w h.1 (by omega)).mono λe w' ⟨b,F,he,h1,h2,h3⟩=>⟨b,F,he,new4 h1,h2,h3⟩
theorem n5(w:World)(h:1<=n/\n<=6):Calls prog 35 #[.int .i64 n,.int .i64 2,.int .i64 1,.int .i64 n] w λe w'=>∃b F,e=.returned (.tuple #[.pointer (some ⟨b,0,none⟩),.int .i64 0])/\NewRep n true (repV5 b) w' F/\(∀i,F i->w.heap.size<=i)/\Fr NoF w w':=
 (crl_new n 2 1 n w ⟨h.1,by omega⟩ (by omega) (by omega) (by omega)).mono λe w' ⟨b,F,he,h1,h2,h3⟩=>⟨b,F,he,new5 h1,h2,h3⟩
theorem n6(w:World)(h:1<=n/\n<=6):Calls prog 36 #[.int .i64 n,.int .i64 (n/4:Nat),.int .i64 (n/2:Nat)] w λe w'=>∃b F,e=.returned (.tuple #[.pointer (some ⟨b,0,none⟩),.int .i64 0])/\NewRep n true (repV6 b) w' F/\(∀i,F i->w.heap.size<=i)/\Fr NoF w w':=
 (tq_new_yes n (n/4) (n/2) w h.1 (by omega) (by omega) (by omega)).mono λe w' ⟨b,F,he,h1,h2,h3⟩=>⟨b,F,he,new6 h1,h2,h3⟩
theorem n7(w:World)(h:1<=n/\n<=6):Calls prog 37 #[.int .i64 n] w λe w'=>∃b F,e=.returned (.tuple #[.pointer (some ⟨b,0,none⟩),.int .i64 0])/\NewRep n true (repV7 b) w' F/\(∀i,F i->w.heap.size<=i)/\Fr NoF w w':=
 (ar_new_yes n w h.1 (by omega)).mono λe w' ⟨b,F,he,h1,h2,h3⟩=>⟨b,F,he,new7 h1,h2,h3⟩
theorem n8(w:World)(h:1<=n/\n<=6):Calls prog 38 #[.int .i64 n] w λe w'=>∃b F,e=.returned (.tuple #[.pointer (some ⟨b,0,none⟩),.int .i64 0])/\NewRep n true (repV8 b) w' F/\(∀i,F i->w.heap.size<=i)/\Fr NoF w w':=
 (pr_new_yes n w h.1 (by omega)).mono λe w' ⟨b,F,he,h1,h2,h3⟩=>⟨b,F,he,new8 h.1 (by omega) h1,h2,h3⟩
theorem nA(w:World){v:Value}{l:List Int}(h:SlZ w v l)(hl:l.length<=65535):Calls prog 21 #[v] w λe w'=>∃lb F,e=.returned (advV lb)/\NewRep n false (advV lb) w' F/\(∀i,F i->w.heap.size<=i)/\Fr NoF w w':=
 (advise_calls h hl).mono λe w' ⟨b,F,he,h1,h2,h3⟩=>⟨b,F,he,newA h1,h2,h3⟩
def NewOf(n k:Nat)(rv:Value)(w0 w:World):Prop:=∃F,NewRep n (decide (k<5)) rv w F/\(∀i,F i->w0.heap.size<=i)/\Fr NoF w0 w
theorem div4{n:Nat}(h:n<=6):Int.tdiv (n:Int) 4=((n/4:Nat):Int):=rfl
theorem div2{n:Nat}(h:n<=6):Int.tdiv (n:Int) 2=((n/2:Nat):Int):=rfl
theorem policy_calls(k:Nat)(hk:k<6)(w:World)(h:1<=n/\n<=6){v:Value}{l:List Int}(hv:SlZ w v l)(hl:l.length<=65535):Calls prog 20 #[.int .i64 k,.int .i64 n,v] w λe w'=>∃rv,e=.returned rv/\NewOf n k rv w w':=by
 have HV:=Hd hv;have HL:=Hd hl;have HN:=Hd h;clear hv hl;obtain⟨h1,h2⟩:=h;have hd4:=div4 h2;have hd2:=div2 h2;rcases(by omega:k=0\/k=1\/k=2\/k=3\/k=4\/k=5)with rfl|rfl|rfl|rfl|rfl|rfl
 all_goals
  go_enter func20,ntmps20
  go_wp2_with fail
  first
   |refine(n4 _ HN.out).mono ?_
   |refine(n5 _ HN.out).mono ?_
   |refine(n6 _ HN.out).mono ?_
   |refine(n7 _ HN.out).mono ?_
   |refine(n8 _ HN.out).mono ?_
   |refine(nA (n:=n) _ HV.out HL.out).mono ?_
  rintro e w1⟨b,F,rfl,a1,a2,a3⟩;have KEY:=Hd (show∃F,NewRep n _ _ w1 F/\(∀i,F i->w.heap.size<=i)/\Fr NoF w w1 from⟨F,a1,a2,a3⟩);clear a1 a2 a3;go_wp2;go_returns;exact⟨_,rfl,KEY.out⟩
theorem made_calls(k:Nat)(hk:k<6)(w:World)(h:1<=n/\n<=6):Calls prog 17 #[.int .i64 k,.int .i64 n] w λe w'=>e=.returned (.bool true)/\Fr NoF w w':=by
 have HN:=Hd h;obtain⟨h1,h2⟩:=h;have h0:Hid (Fr NoF w w):=Fr.refl _ _;have HK:=Hd hk;go_enter func17,ntmps17
 go_wp2_with fail
 refine(n4 _ HN.out).mono ?_;rintro e w1⟨b1,F,rfl,_,_,a3⟩;have g1:=Hd a3;clear a3
 go_wp2_with fail
 refine(n5 _ HN.out).mono ?_;rintro e w2⟨b2,F,rfl,_,_,a3⟩;have g2:=Hd (g1.out.trans a3 (λ_ q=>q.elim));clear a3 g1
 go_wp2_with fail
 refine(n6 _ HN.out).mono ?_;rintro e w3⟨b3,F,rfl,_,_,a3⟩;have g3:=Hd (g2.out.trans a3 (λ_ q=>q.elim));clear a3 g2
 go_wp2_with fail
 refine(n7 _ HN.out).mono ?_;rintro e w4⟨b4,F,rfl,_,_,a3⟩;have g4:=Hd (g3.out.trans a3 (λ_ q=>q.elim));clear a3 g3
 go_wp2_with fail
 refine(n8 _ HN.out).mono ?_;rintro e w5⟨b5,F,rfl,_,_,a3⟩;have g5:=Hd (g4.out.trans a3 (λ_ q=>q.elim));clear a3 g4;rcases(by omega:k=0\/k=1\/k=2\/k=3\/k=4\/k=5)with rfl|rfl|rfl|rfl|rfl|rfl
 all_goals go_wp2
 all_goals go_returns
 all_goals first|exact⟨rfl,g5.out⟩|exact⟨rfl,g5.out.alloc _⟩
end
section
variable{p p1 p2:PP}{q qa qb:Bool}{M M' M2:AM}{m m' m2 id v n:Nat}{w w0 w':World}{F G:Nat->Prop}
theorem AnyP.fro(h:AnyP p q M m w F){G:Nat->Prop}(g:Fr G w w')(hG:∀i,F i->¬G i)(ht:¬G 0):AnyP p q M m w' F:=by
 obtain⟨τ,P,RR,ok,X,S,H,A,O,K⟩:=h;exact⟨τ,P,RR,ok,X,S,⟨H.1.fro S g hG ht,H.2⟩,A,O,K⟩
theorem AnyP.lt(h:AnyP p q M m w F):∀i,F i->i<w.heap.size:=by
 obtain⟨τ,P,RR,ok,X,S,H,A,O,K⟩:=h;exact H.1.lt S
theorem AnyK.fro{r c:Nat}{g:Nat->Int}(h:AnyK p q r c g M m w F){G:Nat->Prop}(f:Fr G w w')(hG:∀i,F i->¬G i)(ht:¬G 0):AnyK p q r c g M m w' F:=by
 obtain⟨τ,P,RR,ok,X,S,H,A⟩:=h;exact⟨τ,P,RR,ok,X,S,⟨H.1.fro S f hG ht,H.2⟩,A⟩
theorem AnyK.lt{r c:Nat}{g:Nat->Int}(h:AnyK p q r c g M m w F):∀i,F i->i<w.heap.size:=h.any.lt
def Duo(R1 R2:World->(Nat->Prop)->Prop)(w0 w:World):Prop:=0<w0.heap.size/\∃F G,R1 w F/\R2 w G/\(∀i,F i->¬G i)/\(∀i,F i\/G i->w0.heap.size<=i)/\Fr NoF w0 w
structure Frm(R:World->(Nat->Prop)->Prop):Prop where
 lt:∀{w:World} {F:Nat->Prop},R w F->∀i,F i->i<w.heap.size
 fro:∀{w w':World} {F G:Nat->Prop},R w F->Fr G w w'->(∀i,F i->¬G i)->¬G 0->R w' F
theorem anyKFrm{r c:Nat}{g:Nat->Int}:Frm (AnyK p q r c g M m):=⟨AnyK.lt,λh f hG ht=>AnyK.fro h f hG ht⟩
theorem anyFrm:Frm (AnyP p q M m):=⟨AnyP.lt,λh f hG ht=>AnyP.fro h f hG ht⟩
theorem Duo.frm{R1 R2:World->(Nat->Prop)->Prop}(k1:Frm R1)(k2:Frm R2)(h:Duo R1 R2 w0 w)(f:Fr NoF w w'):Duo R1 R2 w0 w':=by
 obtain⟨h0,F,G,h1,h2,h3,h4,h5⟩:=h;exact⟨h0,F,G,k1.fro h1 f (λ_ _ q=>q) (λq=>q),k2.fro h2 f (λ_ _ q=>q) (λq=>q),h3,h4,h5.trans f (λ_ c=>c.elim)⟩
theorem Duo.mono{R1 R2 R1' R2':World->(Nat->Prop)->Prop}(h:Duo R1 R2 w0 w)(c1:∀w F,R1 w F->R1' w F)(c2:∀w F,R2 w F->R2' w F):Duo R1' R2' w0 w:=by
 obtain⟨h0,F,G,h1,h2,h3,h4,h5⟩:=h;exact⟨h0,F,G,c1 w F h1,c2 w G h2,h3,h4,h5⟩
theorem Duo.one{R1 R2:World->(Nat->Prop)->Prop}(h:Duo R1 R2 w0 w):∃F,R1 w F:=by
 obtain⟨h0,F,G,h1,h2,h3,h4,h5⟩:=h;exact⟨F,h1⟩
theorem pair_calls(a b:Nat)(ha:a<6)(hb:b<6)(w:World)(h:1<=n/\n<=6){v:Value}{l:List Int}(hv:SlZ w v l)(hl:l.length<=65535)(hT:TabT w):Calls prog 5 #[.int .i64 n,.int .i64 a,.int .i64 b,v] w λe w'=>∃p1 p2:PP,p1.n=n/\p2.n=n/\e=.returned (.tuple #[p1.ptr,.pointer (some ⟨p1.db,0,none⟩),p2.ptr,.pointer (some ⟨p2.db,0,none⟩)])/\Duo (AnyK p1 (decide (a<5)) 0 0 (λ_=> -1) (am0 12) 1000) (AnyK p2 (decide (b<5)) 0 0 (λ_=> -1) (am0 12) 1000) w w':=by
 have HV:=Hd hv;have HL:=Hd hl;have HN:=Hd h;have HT:=Hd hT;have htl:=Hd hT.lt;clear hv hl hT;obtain⟨h1,h2⟩:=h;go_enter func5,ntmps5
 go_wp2_with fail
 refine(made_calls a ha _ HN.out).mono ?_;rintro e wa⟨rfl,f1⟩;have FA:=Hd f1;clear f1
 go_wp2_with fail
 refine(made_calls b hb _ HN.out).mono ?_;rintro e wb⟨rfl,f1⟩;have FB:=Hd (FA.out.trans f1 (λ_ q=>q.elim));clear f1 FA
 go_wp2_with fail
 refine(cd_new 12 _ (by omega) (by omega)).mono ?_;rintro e w1⟨db,FD,rfl,d1,d2,d3⟩;have D1:=Hd d1;have D2:=Hd (λi q=>Nat.le_trans FB.out.size (d2 i q));have D3:=Hd (FB.out.trans d3 (λ_ q=>q.elim));clear d1 d2 d3 FB
 go_wp2_with fail
 refine(cd_new 12 _ (by omega) (by omega)).mono ?_;rintro e w2⟨dc,FE,rfl,d1,d2,d3⟩;have E1:=Hd d1;have E2:=Hd d2;have E3:=Hd (D3.out.trans d3 (λ_ q=>q.elim));have E4:=Hd (D1.out.fr0 d3);have E5:Hid (∀i,FD i->¬FE i):=λi q k=>by have:=D1.out.lt i q;have:=d2 i k;omega
 clear d1 d2 d3
 go_wp2_with fail
 refine(policy_calls a ha _ HN.out (HV.out.keep E3.out) HL.out).mono ?_;rintro e w3⟨rv,rfl,FA,a1,a2,a3⟩;have A1:=Hd a1;have A2:=Hd a2;have A3:=Hd a3;have B1:=Hd (E3.out.trans a3 (λ_ q=>q.elim));have HNW:=Hd (any_new (n:=n) (E4.out.fr0 a3) (by omega) a1 (λi q k=>by have:=E4.out.lt i q;have:=a2 i k;omega) (HT.out.fr0 B1.out) ⟨λq=>by have:=D2.out _ q;have:=htl.out;omega,λq=>by have:=a2 _ q;have:=htl.out;have:=E3.out.size;omega⟩ ⟨by omega,by omega⟩ (by omega));have E6:=Hd (E1.out.fr0 a3);clear a1 a2 a3
 go_wp2_with fail
 refine HNW.out.mono ?_;rintro e w4⟨p1,k1,k2,k3,rfl,⟨F1,k4,k5⟩,k6⟩;subst k2;have K1:=Hd k1;have K4:=Hd k4;have K5:=Hd k5;have C1:=Hd (B1.out.trans k6 (λ_ q=>q.elim));have E7:=Hd (E6.out.fr0 k6)
 have G1:Hid (∀i,F1 i->¬FE i):=λi q k=>by
  have z:=E1.out.lt i k;have y:=E2.out i k;rcases K5.out i q with c|c|c
  .exact E5.out i c k
  .have:=A2.out i c;omega
  .have:=A3.out.size;omega
 have G2:Hid (∀i,F1 i->w.heap.size<=i):=λi q=>by
  rcases K5.out i q with c|c|c
  .exact D2.out i c
  .have:=A2.out i c;have:=E3.out.size;omega
  .have:=B1.out.size;omega
 clear k1 k3 k4 k5 k6 HNW K5 A1 A2 E6 E5 E4 D1;unfold PP.ptr
 go_wp2_with fail
 refine(policy_calls b hb _ HN.out (HV.out.keep C1.out) HL.out).mono ?_;rintro e w5⟨rv2,rfl,FB,a1,a2,a3⟩;have B2:=Hd (C1.out.trans a3 (λ_ q=>q.elim));have HNW:=Hd (any_new (n:=n) (E7.out.fr0 a3) (by omega) a1 (λi q k=>by have:=E7.out.lt i q;have:=a2 i k;omega) (HT.out.fr0 B2.out) ⟨λq=>by have:=E2.out _ q;have:=htl.out;have:=D3.out.size;omega,λq=>by have:=a2 _ q;have:=htl.out;have:=C1.out.size;omega⟩ ⟨by omega,by omega⟩ (by omega));have K6:=Hd (K4.out.fr0 a3);have A2:=Hd a2;have A3:=Hd a3;clear a1 a2 a3
 go_wp2_with fail
 refine HNW.out.mono ?_;rintro e w6⟨p2,k1,k2,k3,rfl,⟨F2,k4,k5⟩,k6⟩;subst k2
 have KEY:Hid (Duo (AnyK p1 (decide (a<5)) 0 0 (λ_=> -1) (am0 12) 1000) (AnyK p2 (decide (b<5)) 0 0 (λ_=> -1) (am0 12) 1000) w w6):=by
  refine⟨htl.out,F1,F2,K6.out.fr0 k6,k4,λi q k=>?_,λi c=>?_,B2.out.trans k6 (λ_ q=>q.elim)⟩
  .have z:=K4.out.lt i q
   rcases k5 i k with c|c|c
   .exact G1.out i q c
   .have:=A2.out i c;omega
   .have:=A3.out.size;omega
  .rcases c with c|c
   .exact G2.out i c
   .rcases k5 i c with d|d|d
    .have:=E2.out i d;have:=D3.out.size;omega
    .have:=A2.out i d;have:=C1.out.size;omega
    .have:=B2.out.size;omega
 have K2:=Hd k1;clear k1 k3 k4 k5 k6;unfold PP.ptr;go_wp2;go_returns;exact⟨p1,p2,K1.out,K2.out,rfl,KEY.out⟩
end
end
section
open Go.Lib Go.Maps Go.Proofs.Tryz Go.RowKit Go.Shelf
open Go.Sort hiding Below
def Tryz.sortIn_ren:Go.Shelf.Ren:=⟨fun|6=>52|15=>82|14=>81|28=>99|29=>100|20=>91|21=>92|22=>93|23=>94|24=>95|25=>96|26=>97|27=>98|46=>106|47=>107|48=>108|49=>109|50=>110|57=>112|n=>n,fun|22=>24|24=>3|25=>112|3=>3|39=>157|0=>0|53=>32|55=>25|4=>4|46=>181|45=>180|50=>109|5=>5|9=>9|66=>187|70=>191|76=>193|77=>194|n=>n,fun|n=>n⟩
theorem Tryz.sortIn:Go.Proofs.SlLaysF.n6 prog Tryz.sortIn_ren:={
 mixed:=by kernel_rfl,
 f6:=⟨Tryz.f52.name,by decide,func52.trans (congrArg some (by kernel_rfl))⟩,
 f14:=⟨Tryz.f81.name,by decide,func81.trans (congrArg some (by kernel_rfl))⟩,
 f15:=func82.trans (congrArg some (by kernel_rfl)),
 f20:=⟨Tryz.f91.name,by decide,func91.trans (congrArg some (by kernel_rfl))⟩,
 f21:=⟨Tryz.f92.name,by decide,func92.trans (congrArg some (by kernel_rfl))⟩,
 f22:=⟨Tryz.f93.name,by decide,func93.trans (congrArg some (by kernel_rfl))⟩,
 f23:=⟨Tryz.f94.name,by decide,func94.trans (congrArg some (by kernel_rfl))⟩,
 f24:=⟨Tryz.f95.name,by decide,func95.trans (congrArg some (by kernel_rfl))⟩,
 f25:=⟨Tryz.f96.name,by decide,func96.trans (congrArg some (by kernel_rfl))⟩,
 f26:=⟨Tryz.f97.name,by decide,func97.trans (congrArg some (by kernel_rfl))⟩,
 f27:=⟨Tryz.f98.name,by decide,func98.trans (congrArg some (by kernel_rfl))⟩,
 f28:=func99.trans (congrArg some (by kernel_rfl)),
 f29:=func100.trans (congrArg some (by kernel_rfl)),
 f46:=⟨Tryz.f106.name,by decide,func106.trans (congrArg some (by kernel_rfl))⟩,
 f47:=func107.trans (congrArg some (by kernel_rfl)),
 f48:=func108.trans (congrArg some (by kernel_rfl)),
 f49:=⟨Tryz.f109.name,by decide,func109.trans (congrArg some (by kernel_rfl))⟩,
 f50:=⟨Tryz.f110.name,by decide,func110.trans (congrArg some (by kernel_rfl))⟩,
 f57:=⟨Tryz.f112.name,by decide,func112.trans (congrArg some (by kernel_rfl))⟩,
 t0:=underlying0,
 a0:=Tryz.isAgg0,
 z0:=Tryz.sizeOf0,
 v0:=Tryz.zeroValue0,
 t3:=underlying3,
 a3:=Tryz.isAgg3,
 z3:=Tryz.sizeOf3,
 v3:=Tryz.zeroValue3,
 t4:=underlying4,
 a4:=Tryz.isAgg4,
 z4:=Tryz.sizeOf4,
 v4:=Tryz.zeroValue4,
 t5:=underlying5,
 a5:=Tryz.isAgg5,
 z5:=Tryz.sizeOf5,
 v5:=Tryz.zeroValue5,
 t9:=underlying9,
 a9:=Tryz.isAgg9,
 z9:=Tryz.sizeOf9,
 v9:=Tryz.zeroValue9,
 t22:=underlying24,
 a22:=Tryz.isAgg24,
 z22:=Tryz.sizeOf24,
 v22:=Tryz.zeroValue24,
 a24:=Tryz.isAgg3,
 z24:=Tryz.sizeOf3,
 t25:=underlying112,
 a25:=Tryz.isAgg112,
 z25:=Tryz.sizeOf112,
 v25:=Tryz.zeroValue112,
 t39:=underlying157,
 a39:=Tryz.isAgg157,
 z39:=Tryz.sizeOf157,
 v39:=Tryz.zeroValue157,
 t45:=underlying180,
 a45:=Tryz.isAgg180,
 z45:=Tryz.sizeOf180,
 v45:=Tryz.zeroValue180,
 t46:=underlying181,
 a46:=Tryz.isAgg181,
 z46:=Tryz.sizeOf181,
 v46:=Tryz.zeroValue181,
 t50:=underlying109,
 a50:=Tryz.isAgg109,
 z50:=Tryz.sizeOf109,
 v50:=Tryz.zeroValue109,
 t53:=underlying32,
 a53:=Tryz.isAgg32,
 z53:=Tryz.sizeOf32,
 v53:=Tryz.zeroValue32,
 t55:=underlying25,
 a55:=Tryz.isAgg25,
 z55:=Tryz.sizeOf25,
 v55:=Tryz.zeroValue25,
 t66:=underlying187,
 a66:=Tryz.isAgg187,
 z66:=Tryz.sizeOf187,
 v66:=Tryz.zeroValue187,
 t70:=underlying191,
 a70:=Tryz.isAgg191,
 z70:=Tryz.sizeOf191,
 v70:=Tryz.zeroValue191,
 t76:=underlying193,
 a76:=Tryz.isAgg193,
 z76:=Tryz.sizeOf193,
 v76:=Tryz.zeroValue193,
 t77:=underlying194,
 a77:=Tryz.isAgg194,
 z77:=Tryz.sizeOf194,
 v77:=Tryz.zeroValue194}
def finL{n:Nat}:(l:List Nat)->(∀x∈l,x<n)->List (Fin n)
 |[],_=>[]
 |x::l,h=>⟨x,h x (List.mem_cons_self ..)⟩::finL l (λy hy=>h y (List.mem_cons_of_mem _ hy))
theorem finL_val{n:Nat}:∀(l:List Nat) (h:∀x∈l,x<n),(finL l h).map (λx=>x.val)=l
 |[],_=>rfl
 |x::l,h=>by
  show x::(finL l _).map _=x::l
  rw[finL_val l]
theorem finL_len{n:Nat}(l:List Nat)(h:∀x∈l,x<n):(finL l h).length=l.length:=by
 have:=congrArg List.length (finL_val l h)
 rwa [List.length_map]at this
def encF{n:Nat}(x:Fin n):Value:=.int .i64 (x.val:Int)
theorem oneF{n:Nat}:OneCell (encF (n:=n)):=λx=>rfl
section
variable{W W':World}{n:Nat}[Inhabited (Fin n)]
theorem fr_sortF{blk m:Nat}{d:Array (Fin n)}{os:Array Obj}:Fr (λi=>i=blk) W (sortWorld encF W blk 0 m d os):=by
 refine⟨rfl,rfl,rfl,?_,λk hk hF=>?_⟩
 .show W.heap.size<=((putRow encF (Go.Sort.ahead W m) blk 0 d).heap++os).size
  rw[Array.size_append];have:(putRow encF (Go.Sort.ahead W m) blk 0 d).heap.size=W.heap.size:=by simp[putRow,mapBlock,Go.Sort.ahead]
  omega
 .have hz:(putRow encF (Go.Sort.ahead W m) blk 0 d).heap.size=W.heap.size:=by simp[putRow,mapBlock,Go.Sort.ahead]
  have e1:(sortWorld encF W blk 0 m d os).heap[k]?=(putRow encF (Go.Sort.ahead W m) blk 0 d).heap[k]?:=by
   show((putRow encF (Go.Sort.ahead W m) blk 0 d).heap++os)[k]?=_
   rw[Array.getElem?_append_left (by omega)]
  rw[e1]
  show(W.heap.modify blk _)[k]?=_
  rw[Array.getElem?_modify,if_neg (λq=>hF q.symm)]
theorem holdsF{base g cap:Nat}{l:List Nat}(hmem:∀x∈l,x<n)(h:OwK .i64 base 3 W (.slice (some ⟨g,0,none⟩) l.length cap) l):Holds encF W g 0 (finL l hmem).toArray:=by
 intro j hj;have hs:(finL l hmem).toArray.size=l.length:=by rw[List.size_toArray,finL_len]
 have hjl:j<l.length:=by omega
 obtain⟨hl,h2⟩:=h;rcases h2 with⟨h2,_⟩|⟨g',cap',cur,e,hg,hh,h3,h4,h5,h6⟩
 .cases h2
 .simp only[Value.slice.injEq,Option.some.injEq,Addr.mk.injEq]at e
  obtain⟨⟨rfl,_⟩,_,rfl⟩:=e
  have hc:cur[j]?=some (.int .i64 (l[j]:Nat)):=by
   have hq:(cur.toList.take (l.length*1))[j]?=some (.int .i64 (l[j]:Nat)):=by rw[h6];simp[hjl]
   rw[List.getElem?_take,if_pos (by omega)]at hq;simpa using hq
  have hv:encF ((finL l hmem).toArray[j]!)=.int .i64 (l[j]:Nat):=by
   rw[getElem!_pos (finL l hmem).toArray j hj];unfold encF;have e2:((finL l hmem).map (λx=>x.val))[j]?=l[j]?:=by rw[finL_val]
   have hj2:j<(finL l hmem).length:=by rw[finL_len];exact hjl
   rw[List.getElem?_map,List.getElem?_eq_getElem hj2,List.getElem?_eq_getElem hjl]at e2;simp at e2;simp[e2]
  rw[hv];constructor
  .simp[World.cell?,hh,hc]
  .simp[World.frozen?,hh]
end
section
variable{p:PP}{f:Nat->FrS}
theorem cmpZ_neg(x y:Nat):cmpZ x y<0↔x<y:=by
 unfold cmpZ
 split
 .constructor
  .intro _;omega
  .intro _;omega
 .split
  .constructor
   .intro q;omega
   .intro q;omega
  .constructor
   .intro q;omega
   .intro q;omega
theorem swoF(n:Nat):SWO (ltOf λx y:Fin n=>cmpZ (f x.val).id (f y.val).id) where
 irrefl x:=by unfold ltOf;rw[decide_eq_false_iff_not,cmpZ_neg];omega
 trans x y z h1 h2:=by unfold ltOf at*;rw[decide_eq_true_eq,cmpZ_neg]at*;omega
 ntrans x y z h1 h2:=by unfold ltOf at*;rw[decide_eq_false_iff_not,cmpZ_neg]at*;omega
theorem sorts_by(bx base:Nat):SortsBy p f bx base:=by
 intro W v l ho hbx hmem hll hb hbl hM hown htb;obtain⟨pl,E,I,sc,m,hM⟩:=hM;have hbase:=ho.base;have h0:=ho;obtain⟨hl,h2⟩:=ho;rcases h2 with⟨rfl,hz⟩|⟨g,cap,cur,rfl,hg,hh,h3,h4,h5,h6⟩
 .have hl0:l=[]:=List.length_eq_zero_iff.1 hz
  subst hl0;have hS:=AnyF.slices_SortFunc_none (P:=prog) (ρ:=Tryz.sortIn_ren) {Tryz.sortIn with} none 0 (.func (.func 53) #[] #[.pointer (some ⟨bx,0,none⟩)]) W;change Calls prog 52 _ _ _ at hS;refine hS.mono ?_;rintro e w'⟨rfl,rfl⟩;exact⟨rfl,[],List.Perm.refl _,λi j hi=>absurd hi (Nat.not_lt_zero i),SlK.nil _ _,Fr.refl _ _⟩
 .have hn:=hM.hn
  haveI:Inhabited (Fin p.n):=⟨⟨0,hn.1⟩⟩
  have hH:=holdsF hmem h0;have hgl:=(World.ownsRow.lt h0 g rfl).2;have hgb:=hbase g rfl;have hsz:(finL l hmem).toArray.size=l.length:=by rw[List.size_toArray,finL_len]
  have hcmp:CmpLays1 prog 53 #[.pointer (some ⟨bx,0,none⟩)] encF (λx y:Fin p.n=>cmpZ (f x.val).id (f y.val).id) g 0 (finL l hmem).toArray.size W:=by
   intro k os dk hdk x y;have fs:Fr (λi=>i=g) W (sortWorld encF W g 0 k dk os):=fr_sortF;have hM2:=hM.fro fs (λi q e=>by have:=hown i q;omega) (λe=>by have h9:0=g:=e;omega);have hb2:(sortWorld encF W g 0 k dk os).cell? ⟨bx,0,none⟩=some p.ptr:=by rw[fs.cell (p:=⟨bx,0,none⟩) hbl (by show¬bx=g;omega)];exact hb
   refine(dcmp_calls hM2 x.isLt y.isLt hb2 (Nat.lt_of_lt_of_le hbl fs.size)).mono ?_;rintro e w'⟨he,q,rfl⟩;exact⟨he,q,#[],by rw[grow_empty]⟩
  have hS:=Any.slices_SortFunc Tryz.sortIn encF oneF (λx y:Fin p.n=>cmpZ (f x.val).id (f y.val).id) (swoF p.n) 53 #[.pointer (some ⟨bx,0,none⟩)] g 0 cap (finL l hmem).toArray W (enters_of func53 (by kernel_rfl) rfl) hcmp hH hgl (by omega);rw[hsz]at hS;change Calls prog 52 _ _ _ at hS;refine hS.mono ?_;rintro e w'⟨rfl,d',k,os,⟨p1,p2,p3⟩,hsd,rfl⟩;have hs':d'.size=l.length:=by rw[p1,hsz]
  have hH':=holds_sortWorld encF W g 0 k (finL l hmem).toArray d' os hgl hH p1;have e1:(d'.extract 0 l.length).toList=d'.toList:=by rw[<-hs'];simp
  have e2:((finL l hmem).toArray.extract 0 l.length).toList=finL l hmem:=by
   have:=finL_len l hmem;simp[List.take_of_length_le,this]
  rw[e1,e2]at p3
  have hp:(d'.toList.map (λx=>x.val)).Perm l:=by
   have:=p3.map (λx=>x.val)
   rwa [finL_val]at this
  have hlen:(d'.toList.map (λx=>x.val)).length=l.length:=hp.length_eq
  have hat:∀i (hi:i<(d'.toList.map (λx=>x.val)).length),(d'.toList.map (λx=>x.val))[i]=(d'[i]!).val:=λi hi=>by
   rw[getElem!_pos d' i (by rw[hs'];omega)];simp
  refine⟨rfl,_,hp,λi j hi hj hij=>?_,?_,fr_sortF.mono (λi q=>by rw[q];rfl)⟩
  .have:=hsd i j (Nat.zero_le _) hij (by omega)
   unfold ltOf at this;rw[decide_eq_false_iff_not,cmpZ_neg]at this;rw[hat i hi,hat j hj];exact this
  .refine⟨some ⟨g,0,none⟩,cap,by rw[hlen],by simp[hs'],λu hu=>?_,by rw[hlen];exact h3,h4,.inr ⟨g,0,rfl,Nat.lt_of_lt_of_le hgl fr_sortF.size,λj u hj=>?_⟩⟩
   .obtain⟨y,_,rfl⟩:=List.mem_map.1 hu
    rfl
   .have hjl:j<d'.size:=by
     have:=(List.getElem?_eq_some_iff.1 hj).1;simpa using this
    rw[(hH' j hjl).1];simp[hjl]at hj;rw[<-hj];unfold encF;rw[getElem!_pos d' j hjl]
end
end
section
open Go.Maps Go.Proofs.Tryz Go.RowKit
section
variable{p p1 p2:PP}{q qa qb:Bool}{M M' M2:AM}{m m' m2 id v n:Nat}{w w0 w':World}{F G:Nat->Prop}
def AnyC(p:PP)(q:Bool)(M:AM)(m:Nat)(w:World)(F:Nat->Prop):Prop:=
 ∃(τ:Type) (P:Adv τ) (RR:World->τ->(Nat->Prop)->Prop) (ok:Nat->τ->(Nat->Nat)->(Nat->Bool)->Prop) (X:PS τ),RepSys P RR p.pb p.rv p.n ok/\PW RR ok p X m w F/\Abs p.n X M/\M.okA/\(q=true->X.sc=0/\Good0 P p.n ok)/\∀i,i<p.n->(X.f i).dirty=false
theorem AnyC.any(h:AnyC p q M m w F):AnyP p q M m w F:=by
 obtain⟨τ,P,RR,ok,X,S,H,A,O,K,_⟩:=h;exact⟨τ,P,RR,ok,X,S,H,A,O,K⟩
theorem AnyP.fa(h:AnyP p q M m w F)(hm:m<60000)(hn:p.n<=64):Calls prog 11 #[p.ptr] w λe w'=>e=.returned (.int .i64 0)/\Led (AnyC p q M (m+100)) F w w':=by
 obtain⟨τ,P,RR,ok,X,S,H,A,O,K⟩:=h;refine(fa_calls S H hm hn (sorts_by _ _)).mono ?_;rintro e w'⟨l,hp,_,he,hl⟩
 obtain⟨r1,r2,r3,r4⟩:=A.flushLE l (λk hk=>by
  obtain⟨k1,k2⟩:=dirL_mem.1 (hp.mem_iff.1 hk);refine⟨k1,λh0=>?_⟩;rw[A.inv.em k k1 h0]at k2
  cases k2)
 refine⟨by rw[he,r1];rfl,hl.mono (λF' h'=>⟨τ,P,RR,ok,_,S,h',r2,O,λhq=>⟨by rw[flushL_sc];exact(K hq).1,(K hq).2⟩,λi hi=>?_⟩)⟩
 cases e2:((X.flushL l).2.f i).dirty with
 |false=>rfl
 |true=>
  obtain⟨c1,c2⟩:=r4 i e2;exact(c2 (hp.mem_iff.2 (dirL_mem.2 ⟨hi,c1⟩))).elim
end
def DuoB(R1 R2:World->(Nat->Prop)->Prop)(w0:World)(b:Nat)(C:Nat->Value)(w:World):Prop:=0<w0.heap.size/\∃F G,R1 w F/\R2 w G/\(∀i,F i->¬G i)/\(∀i,F i\/G i->w0.heap.size<=i)/\Fr NoF w0 w/\Blk w b 3 C/\(∀i,F i\/G i->¬i=b)
section
variable{R1 R1' R2 R2':World->(Nat->Prop)->Prop}{w0 w w':World}{b:Nat}{C:Nat->Value}
theorem DuoB.left{g:FuncId}{args:Array Value}{Q:Ending->Prop}(k2:Frm R2)(h:DuoB R1 R2 w0 b C w)(hc:∀F,R1 w F->Calls prog g args w λe w'=>Q e/\Led R1' F w w'):Calls prog g args w λe w'=>Q e/\DuoB R1' R2 w0 b C w':=by
 obtain⟨h0,F,G,h1,h2,h3,h4,h5,h6,h7⟩:=h;refine(hc F h1).mono ?_;rintro e w'⟨k0,F',k1,k2',k3⟩;refine⟨k0,h0,F',G,k1,k2.fro h2 k2' (λi g f=>h3 i f g) (λc=>by have:=h4 _ (.inl c);omega),λi a b=>?_,λi c=>?_,h5.trans k2' (λi c=>.inr (h4 i (.inl c))),h6.fr k2' (λq=>h7 b (.inl q) rfl),λi c=>?_⟩
 .rcases k3 i a with c|c
  .exact h3 i c b
  .have:=k2.lt h2 i b;omega
 .rcases c with c|c
  .rcases k3 i c with d|d
   .exact h4 i (.inl d)
   .have:=h5.size;omega
  .exact h4 i (.inr c)
 .rcases c with c|c
  .rcases k3 i c with d|d
   .exact h7 i (.inl d)
   .have:=h6.lt;omega
  .exact h7 i (.inr c)
theorem DuoB.swap(h:DuoB R1 R2 w0 b C w):DuoB R2 R1 w0 b C w:=by
 obtain⟨h0,F,G,h1,h2,h3,h4,h5,h6,h7⟩:=h;exact⟨h0,G,F,h2,h1,λi a b=>h3 i b a,λi c=>h4 i c.symm,h5,h6,λi c=>h7 i c.symm⟩
theorem DuoB.right{g:FuncId}{args:Array Value}{Q:Ending->Prop}(k1:Frm R1)(h:DuoB R1 R2 w0 b C w)(hc:∀F,R2 w F->Calls prog g args w λe w'=>Q e/\Led R2' F w w'):Calls prog g args w λe w'=>Q e/\DuoB R1 R2' w0 b C w':=
 (DuoB.left k1 h.swap hc).mono λe w' ⟨k0,k1⟩=>⟨k0,k1.swap⟩
theorem DuoB.frm(k1:Frm R1)(k2:Frm R2)(h:DuoB R1 R2 w0 b C w)(f:Fr NoF w w'):DuoB R1 R2 w0 b C w':=by
 obtain⟨h0,F,G,h1,h2,h3,h4,h5,h6,h7⟩:=h;exact⟨h0,F,G,k1.fro h1 f (λ_ _ q=>q) (λq=>q),k2.fro h2 f (λ_ _ q=>q) (λq=>q),h3,h4,h5.trans f (λ_ c=>c.elim),h6.fr f (λq=>q),h7⟩
theorem DuoB.lt(h:DuoB R1 R2 w0 b C w):b<w.heap.size:=by
 obtain⟨h0,F,G,h1,h2,h3,h4,h5,h6,h7⟩:=h;exact h6.lt
theorem DuoB.e(h:DuoB R1 R2 w0 b C w):Duo R1 R2 w0 w:=by
 obtain⟨h0,F,G,h1,h2,h3,h4,h5,h6,h7⟩:=h;exact⟨h0,F,G,h1,h2,h3,h4,h5⟩
theorem DuoB.cell(h:DuoB R1 R2 w0 b C w){w':World}(f:Fr NoF w w'){i:Nat}(hi:i<3):w'.cell? ⟨b,i,none⟩=some (C i):=by
 obtain⟨h0,F,G,h1,h2,h3,h4,h5,h6,h7⟩:=h;exact(h6.fr f (λq=>q)).cell hi
end
def opC3(k:Int)(id v:Nat):Nat->Value
 |0=>.int .i64 k
 |1=>.int .u32 id
 |_=>.int .u64 v
section
variable{p1 p2:PP}{R1 R1' R2 R2':World->(Nat->Prop)->Prop}{w0 w w':World}{b:Nat}{C:Nat->Value}
theorem Duo.op(k1:Frm R1)(k2:Frm R2)(h:Duo R1 R2 w0 w)(zk:Int)(zi zv:Nat):DuoB R1 R2 w0 w.heap.size (opC3 zk zi zv) (w.alloc (.cells #[.int .i64 zk,.int .u32 zi,.int .u64 zv] 34)):=by
 have f:Fr NoF w (w.alloc (.cells #[.int .i64 zk,.int .u32 zi,.int .u64 zv] 34)):=(Fr.refl NoF w).alloc _;obtain⟨h0,F,G,h1,h2,h3,h4,h5⟩:=h
 refine⟨h0,F,G,k1.fro h1 f (λ_ _ q=>q) (λq=>q),k2.fro h2 f (λ_ _ q=>q) (λq=>q),h3,h4,h5.trans f (λ_ c=>c.elim),Blk.new _ _ _ 3 _ _ rfl rfl (λi hi=>by
  match i,hi with
  |0,_=>rfl
  |1,_=>rfl
  |2,_=>rfl),λi c e=>?_⟩
 rcases c with c|c
 .have:=k1.lt h1 i c;omega
 .have:=k2.lt h2 i c;omega
def Does(R R':World->(Nat->Prop)->Prop)(g:FuncId)(args:Array Value)(v:Value):Prop:=∀W F,R W F->Calls prog g args W λe w'=>e=.returned v/\Led R' F W w'
theorem DuoB.run1{g:FuncId}{args:Array Value}{v:Value}(k1:Frm R1)(k2:Frm R2)(h:DuoB R1 R2 w0 b C w)(hc:Does R1 R1' g args v):
  Hid (∀W,Fr NoF w W->Calls prog g args W λe w'=>e=.returned v/\DuoB R1' R2 w0 b C w'):=λW f=>
 (h.frm k1 k2 f).left (Q:=λe=>e=.returned v) k2 (λF hF=>hc W F hF)
theorem DuoB.run2{g:FuncId}{args:Array Value}{v:Value}(k1:Frm R1')(hc:Does R2 R2' g args v):
  Hid (∀W,DuoB R1' R2 w0 b C W->Calls prog g args W λe w'=>e=.returned v/\DuoB R1' R2' w0 b C w'):=λW h=>
 h.right (Q:=λe=>e=.returned v) k1 (λF hF=>hc W F hF)
theorem quiet_led{R:World->(Nat->Prop)->Prop}{Q:Ending->Prop}{g:FuncId}{args:Array Value}{F:Nat->Prop}(h:R w F)(hc:Calls prog g args w λe w'=>Q e/\w=w'):Calls prog g args w λe w'=>Q e/\Led R F w w':=
 hc.mono λe w' ⟨q,f⟩=>by subst f;exact⟨q,Led.refl h⟩
theorem same_new(k1:Frm R1)(k2:Frm R2)(k3:Frm R1')(H:Duo R1 R2 w0 w){zk:Int}{zi zv:Nat}{ra rb:Nat}(c1:Does R1 R1' 22 #[p1.ptr] (.tuple #[.int .u32 ra,.int .i64 rb]))(c2:Does R2 R2' 22 #[p2.ptr] (.tuple #[.int .u32 ra,.int .i64 rb]))(ek:wrap64 ((IntKind.u64.wrap zk).tmod 8)=0):
  Calls prog 7 #[p1.ptr,p2.ptr,.agg #[.int .i64 zk,.int .u32 zi,.int .u64 zv]] w λe w'=>e=.returned (.bool true)/\Duo R1' R2' w0 w':=by
 have HB:=Hd (H.op k1 k2 zk zi zv);have HD:=DuoB.run1 k1 k2 HB.out c1;have HR:=DuoB.run2 (R1':=R1') (w0:=w0) (b:=w.heap.size) (C:=opC3 zk zi zv) k3 c2;have K2:=Hd k2;have K3:=Hd k3;clear H k1 k2 k3 c1 c2;unfold PP.ptr at*;go_enter func7,ntmps7
 go_wp2_with fail
 refine(HD.out _ (Fr.refl NoF _)).mono ?_;rintro e w4⟨rfl,h4⟩;have H4:=Hd h4;have l4:w.heap.size<w4.heap.size:=H4.out.lt;clear h4 HD
 go_wp2_with fail
 refine(HR.out _ H4.out).mono ?_;rintro e w5⟨rfl,h5⟩;have H5:=Hd h5.e;clear h5 HR H4;go_wp2;go_returns;exact⟨by first|rfl|simp,H5.out⟩
theorem same_read(k1:Frm R1)(k2:Frm R2)(k3:Frm R1')(H:Duo R1 R2 w0 w){zk:Int}{zi zv:Nat}{ra rb:Nat}(c1:Does R1 R1' 25 #[p1.ptr,.int .u32 zi] (.tuple #[.int .u64 ra,.int .i64 rb]))(c2:Does R2 R2' 25 #[p2.ptr,.int .u32 zi] (.tuple #[.int .u64 ra,.int .i64 rb]))(ek:wrap64 ((IntKind.u64.wrap zk).tmod 8)=3):
  Calls prog 7 #[p1.ptr,p2.ptr,.agg #[.int .i64 zk,.int .u32 zi,.int .u64 zv]] w λe w'=>e=.returned (.bool true)/\Duo R1' R2' w0 w':=by
 have HB:=Hd (H.op k1 k2 zk zi zv);have HD:=DuoB.run1 k1 k2 HB.out c1;have HR:=DuoB.run2 (R1':=R1') (w0:=w0) (b:=w.heap.size) (C:=opC3 zk zi zv) k3 c2;have K2:=Hd k2;have K3:=Hd k3;clear H k1 k2 k3 c1 c2;unfold PP.ptr at*;go_enter func7,ntmps7
 go_wp2_with fail
 refine(HD.out _ (Fr.refl NoF _)).mono ?_;rintro e w4⟨rfl,h4⟩;have H4:=Hd h4;have l4:w.heap.size<w4.heap.size:=H4.out.lt;have c41:w4.cell? ⟨w.heap.size,1,none⟩=some (.int .u32 zi):=H4.out.cell (Fr.refl NoF _) (by omega);clear h4 HD
 go_wp2_with fail
 refine(HR.out _ H4.out).mono ?_;rintro e w5⟨rfl,h5⟩;have H5:=Hd h5.e;clear h5 HR H4;go_wp2;go_returns;exact⟨by first|rfl|simp,H5.out⟩
theorem same_flushAll(k1:Frm R1)(k2:Frm R2)(k3:Frm R1')(H:Duo R1 R2 w0 w){zk:Int}{zi zv:Nat}(c1:Does R1 R1' 11 #[p1.ptr] (.int .i64 0))(c2:Does R2 R2' 11 #[p2.ptr] (.int .i64 0))(ek:wrap64 ((IntKind.u64.wrap zk).tmod 8)=6):
  Calls prog 7 #[p1.ptr,p2.ptr,.agg #[.int .i64 zk,.int .u32 zi,.int .u64 zv]] w λe w'=>e=.returned (.bool true)/\Duo R1' R2' w0 w':=by
 have HB:=Hd (H.op k1 k2 zk zi zv);have HD:=DuoB.run1 k1 k2 HB.out c1;have HR:=DuoB.run2 (R1':=R1') (w0:=w0) (b:=w.heap.size) (C:=opC3 zk zi zv) k3 c2;have K2:=Hd k2;have K3:=Hd k3;clear H k1 k2 k3 c1 c2;unfold PP.ptr at*;go_enter func7,ntmps7
 go_wp2_with fail
 refine(HD.out _ (Fr.refl NoF _)).mono ?_;rintro e w4⟨rfl,h4⟩;have H4:=Hd h4;have l4:w.heap.size<w4.heap.size:=H4.out.lt;clear h4 HD
 go_wp2_with fail
 refine(HR.out _ H4.out).mono ?_;rintro e w5⟨rfl,h5⟩;have H5:=Hd h5.e;clear h5 HR H4;go_wp2;go_returns;exact⟨by first|rfl|simp,H5.out⟩
end
section
variable{p1 p2:PP}{qa qb:Bool}{M M2:AM}{m m2:Nat}{R1 R1' R2 R2':World->(Nat->Prop)->Prop}{w0 w w':World}{b:Nat}{C:Nat->Value}
theorem same_fetch(k1:Frm R1)(k2:Frm R2)(k3:Frm R1')(H:Duo R1 R2 w0 w){zk:Int}{zi zv:Nat}{ra:Nat}(c1:Does R1 R1' 24 #[p1.ptr,.int .u32 zi] (.int .i64 ra))(c2:Does R2 R2' 24 #[p2.ptr,.int .u32 zi] (.int .i64 ra))(ek:wrap64 ((IntKind.u64.wrap zk).tmod 8)=1):
  Calls prog 7 #[p1.ptr,p2.ptr,.agg #[.int .i64 zk,.int .u32 zi,.int .u64 zv]] w λe w'=>e=.returned (.bool true)/\Duo R1' R2' w0 w':=by
 have HB:=Hd (H.op k1 k2 zk zi zv);have HD:=DuoB.run1 k1 k2 HB.out c1;have HR:=DuoB.run2 (R1':=R1') (w0:=w0) (b:=w.heap.size) (C:=opC3 zk zi zv) k3 c2;have K2:=Hd k2;have K3:=Hd k3;clear H k1 k2 k3 c1 c2;unfold PP.ptr at*;go_enter func7,ntmps7
 go_wp2_with fail
 go_region_held3(λw'=>w'.cell? ⟨w.heap.size,1,none⟩=some (.int .u32 zi))
  (first|exact H5.out.cell (by repeat(first|exact Fr.refl NoF _|apply Fr.drew|apply Fr.drewN)) (by omega)|exact H4.out.cell (by repeat(first|exact Fr.refl NoF _|apply Fr.drew|apply Fr.drewN)) (by omega)|exact HB.out.cell (by repeat(first|exact Fr.refl NoF _|apply Fr.drew|apply Fr.drewN)) (by omega))
  (first
   |(go_at_call 24;(with_reducible refine(HD.out _ (by repeat(first|exact Fr.refl NoF _|apply Fr.drew|apply Fr.drewN))).mono ?_);rintro e w4⟨rfl,h4⟩;have H4:=Hd h4;clear h4)
   |(go_at_call 24;(with_reducible refine(HR.out _ (H4.out.frm K3.out K2.out (by repeat(first|exact Fr.refl NoF _|apply Fr.drew|apply Fr.drewN)))).mono ?_);rintro e w5⟨rfl,h5⟩;have H5:=Hd h5;clear h5))
 all_goals
  clear HD HR H4;have HE5:=Hd H5.out.e;clear H5;go_wp2;go_returns;exact⟨by first|rfl|simp,HE5.out⟩
theorem same_unpin(k1:Frm R1)(k2:Frm R2)(k3:Frm R1')(H:Duo R1 R2 w0 w){zk:Int}{zi zv:Nat}{ra:Nat}(c1:Does R1 R1' 23 #[p1.ptr,.int .u32 zi] (.int .i64 ra))(c2:Does R2 R2' 23 #[p2.ptr,.int .u32 zi] (.int .i64 ra))(ek:wrap64 ((IntKind.u64.wrap zk).tmod 8)=2):
  Calls prog 7 #[p1.ptr,p2.ptr,.agg #[.int .i64 zk,.int .u32 zi,.int .u64 zv]] w λe w'=>e=.returned (.bool true)/\Duo R1' R2' w0 w':=by
 have HB:=Hd (H.op k1 k2 zk zi zv);have HD:=DuoB.run1 k1 k2 HB.out c1;have HR:=DuoB.run2 (R1':=R1') (w0:=w0) (b:=w.heap.size) (C:=opC3 zk zi zv) k3 c2;have K2:=Hd k2;have K3:=Hd k3;clear H k1 k2 k3 c1 c2;unfold PP.ptr at*;go_enter func7,ntmps7
 go_wp2_with fail
 go_region_held3(λw'=>w'.cell? ⟨w.heap.size,1,none⟩=some (.int .u32 zi))
  (first|exact H5.out.cell (by repeat(first|exact Fr.refl NoF _|apply Fr.drew|apply Fr.drewN)) (by omega)|exact H4.out.cell (by repeat(first|exact Fr.refl NoF _|apply Fr.drew|apply Fr.drewN)) (by omega)|exact HB.out.cell (by repeat(first|exact Fr.refl NoF _|apply Fr.drew|apply Fr.drewN)) (by omega))
  (first
   |(go_at_call 23;(with_reducible refine(HD.out _ (by repeat(first|exact Fr.refl NoF _|apply Fr.drew|apply Fr.drewN))).mono ?_);rintro e w4⟨rfl,h4⟩;have H4:=Hd h4;clear h4)
   |(go_at_call 23;(with_reducible refine(HR.out _ (H4.out.frm K3.out K2.out (by repeat(first|exact Fr.refl NoF _|apply Fr.drew|apply Fr.drewN)))).mono ?_);rintro e w5⟨rfl,h5⟩;have H5:=Hd h5;clear h5))
 all_goals
  clear HD HR H4;have HE5:=Hd H5.out.e;clear H5;go_wp2;go_returns;exact⟨by first|rfl|simp,HE5.out⟩
theorem same_write(k1:Frm R1)(k2:Frm R2)(k3:Frm R1')(H:Duo R1 R2 w0 w){zk:Int}{zi zv:Nat}{ra:Nat}(c1:Does R1 R1' 26 #[p1.ptr,.int .u32 zi,.int .u64 zv] (.int .i64 ra))(c2:Does R2 R2' 26 #[p2.ptr,.int .u32 zi,.int .u64 zv] (.int .i64 ra))(ek:wrap64 ((IntKind.u64.wrap zk).tmod 8)=4):
  Calls prog 7 #[p1.ptr,p2.ptr,.agg #[.int .i64 zk,.int .u32 zi,.int .u64 zv]] w λe w'=>e=.returned (.bool true)/\Duo R1' R2' w0 w':=by
 have HB:=Hd (H.op k1 k2 zk zi zv);have HD:=DuoB.run1 k1 k2 HB.out c1;have HR:=DuoB.run2 (R1':=R1') (w0:=w0) (b:=w.heap.size) (C:=opC3 zk zi zv) k3 c2;have K2:=Hd k2;have K3:=Hd k3;clear H k1 k2 k3 c1 c2;unfold PP.ptr at*;go_enter func7,ntmps7
 go_wp2_with fail
 go_region_held3(λw'=>w'.cell? ⟨w.heap.size,1,none⟩=some (.int .u32 zi)/\w'.cell? ⟨w.heap.size,2,none⟩=some (.int .u64 zv))
  (first|exact⟨H5.out.cell (by repeat(first|exact Fr.refl NoF _|apply Fr.drew|apply Fr.drewN)) (by omega),H5.out.cell (by repeat(first|exact Fr.refl NoF _|apply Fr.drew|apply Fr.drewN)) (by omega)⟩|exact⟨H4.out.cell (by repeat(first|exact Fr.refl NoF _|apply Fr.drew|apply Fr.drewN)) (by omega),H4.out.cell (by repeat(first|exact Fr.refl NoF _|apply Fr.drew|apply Fr.drewN)) (by omega)⟩|exact⟨HB.out.cell (by repeat(first|exact Fr.refl NoF _|apply Fr.drew|apply Fr.drewN)) (by omega),HB.out.cell (by repeat(first|exact Fr.refl NoF _|apply Fr.drew|apply Fr.drewN)) (by omega)⟩)
  (first
   |(go_at_call 26;(with_reducible refine(HD.out _ (by repeat(first|exact Fr.refl NoF _|apply Fr.drew|apply Fr.drewN))).mono ?_);rintro e w4⟨rfl,h4⟩;have H4:=Hd h4;clear h4)
   |(go_at_call 26;(with_reducible refine(HR.out _ (H4.out.frm K3.out K2.out (by repeat(first|exact Fr.refl NoF _|apply Fr.drew|apply Fr.drewN)))).mono ?_);rintro e w5⟨rfl,h5⟩;have H5:=Hd h5;clear h5))
 all_goals
  clear HD HR H4;have HE5:=Hd H5.out.e;clear H5;go_wp2;go_returns;exact⟨by first|rfl|simp,HE5.out⟩
theorem same_flush(k1:Frm R1)(k2:Frm R2)(k3:Frm R1')(H:Duo R1 R2 w0 w){zk:Int}{zi zv:Nat}{ra:Nat}(c1:Does R1 R1' 27 #[p1.ptr,.int .u32 zi] (.int .i64 ra))(c2:Does R2 R2' 27 #[p2.ptr,.int .u32 zi] (.int .i64 ra))(ek:wrap64 ((IntKind.u64.wrap zk).tmod 8)=5):
  Calls prog 7 #[p1.ptr,p2.ptr,.agg #[.int .i64 zk,.int .u32 zi,.int .u64 zv]] w λe w'=>e=.returned (.bool true)/\Duo R1' R2' w0 w':=by
 have HB:=Hd (H.op k1 k2 zk zi zv);have HD:=DuoB.run1 k1 k2 HB.out c1;have HR:=DuoB.run2 (R1':=R1') (w0:=w0) (b:=w.heap.size) (C:=opC3 zk zi zv) k3 c2;have K2:=Hd k2;have K3:=Hd k3;clear H k1 k2 k3 c1 c2;unfold PP.ptr at*;go_enter func7,ntmps7
 go_wp2_with fail
 go_region_held3(λw'=>w'.cell? ⟨w.heap.size,1,none⟩=some (.int .u32 zi))
  (first|exact H5.out.cell (by repeat(first|exact Fr.refl NoF _|apply Fr.drew|apply Fr.drewN)) (by omega)|exact H4.out.cell (by repeat(first|exact Fr.refl NoF _|apply Fr.drew|apply Fr.drewN)) (by omega)|exact HB.out.cell (by repeat(first|exact Fr.refl NoF _|apply Fr.drew|apply Fr.drewN)) (by omega))
  (first
   |(go_at_call 27;(with_reducible refine(HD.out _ (by repeat(first|exact Fr.refl NoF _|apply Fr.drew|apply Fr.drewN))).mono ?_);rintro e w4⟨rfl,h4⟩;have H4:=Hd h4;clear h4)
   |(go_at_call 27;(with_reducible refine(HR.out _ (H4.out.frm K3.out K2.out (by repeat(first|exact Fr.refl NoF _|apply Fr.drew|apply Fr.drewN)))).mono ?_);rintro e w5⟨rfl,h5⟩;have H5:=Hd h5;clear h5))
 all_goals
  clear HD HR H4;have HE5:=Hd H5.out.e;clear H5;go_wp2;go_returns;exact⟨by first|rfl|simp,HE5.out⟩
theorem same_delete(k1:Frm R1)(k2:Frm R2)(k3:Frm R1')(H:Duo R1 R2 w0 w){zk:Int}{zi zv:Nat}{ra:Nat}(c1:Does R1 R1' 28 #[p1.ptr,.int .u32 zi] (.int .i64 ra))(c2:Does R2 R2' 28 #[p2.ptr,.int .u32 zi] (.int .i64 ra))(ek:wrap64 ((IntKind.u64.wrap zk).tmod 8)=7):
  Calls prog 7 #[p1.ptr,p2.ptr,.agg #[.int .i64 zk,.int .u32 zi,.int .u64 zv]] w λe w'=>e=.returned (.bool true)/\Duo R1' R2' w0 w':=by
 have HB:=Hd (H.op k1 k2 zk zi zv);have HD:=DuoB.run1 k1 k2 HB.out c1;have HR:=DuoB.run2 (R1':=R1') (w0:=w0) (b:=w.heap.size) (C:=opC3 zk zi zv) k3 c2;have K2:=Hd k2;have K3:=Hd k3;clear H k1 k2 k3 c1 c2;unfold PP.ptr at*;go_enter func7,ntmps7
 go_wp2_with fail
 go_region_held3(λw'=>w'.cell? ⟨w.heap.size,1,none⟩=some (.int .u32 zi))
  (first|exact H5.out.cell (by repeat(first|exact Fr.refl NoF _|apply Fr.drew|apply Fr.drewN)) (by omega)|exact H4.out.cell (by repeat(first|exact Fr.refl NoF _|apply Fr.drew|apply Fr.drewN)) (by omega)|exact HB.out.cell (by repeat(first|exact Fr.refl NoF _|apply Fr.drew|apply Fr.drewN)) (by omega))
  (first
   |(go_at_call 28;(with_reducible refine(HD.out _ (by repeat(first|exact Fr.refl NoF _|apply Fr.drew|apply Fr.drewN))).mono ?_);rintro e w4⟨rfl,h4⟩;have H4:=Hd h4;clear h4)
   |(go_at_call 28;(with_reducible refine(HR.out _ (H4.out.frm K3.out K2.out (by repeat(first|exact Fr.refl NoF _|apply Fr.drew|apply Fr.drewN)))).mono ?_);rintro e w5⟨rfl,h5⟩;have H5:=Hd h5;clear h5))
 all_goals
  clear HD HR H4;have HE5:=Hd H5.out.e;clear H5;go_wp2;go_returns;exact⟨by first|rfl|simp,HE5.out⟩
theorem AnyP.do1{p:PP}{q:Bool}{M M':AM}{m k:Nat}{g:FuncId}{args:Array Value}{v:Value}(hk:k<=100)(h:∀W F,AnyP p q M m W F->Calls prog g args W λe w'=>e=.returned v/\Led (AnyP p q M' (m+k)) F W w'):Does (AnyP p q M m) (AnyP p q M' (m+100)) g args v:=λW F hF=>
 (h W F hF).mono λe w' ⟨q,hl⟩=>⟨q,hl.mono (λF' h'=>h'.more (by omega))⟩
end
end
end Go.Proofs.YtpkbkhffglikhaaGreatDoor
