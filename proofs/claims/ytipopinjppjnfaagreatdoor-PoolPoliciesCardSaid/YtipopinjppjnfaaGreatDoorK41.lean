/- Part 41. -/
import Derived.Test.YtipopinjppjnfaaGreatDoorK40
import Derived.Test.YtipopinjppjnfaaGreatDoorK15
namespace Go.Proofs.YtipopinjppjnfaaGreatDoor
set_option linter.all false
set_option maxHeartbeats 16000000
set_option maxRecDepth 100000
section
open Go.Maps Go.Proofs.Tryz Go.RowKit
def CRL(w:World)(lb:Nat)(S:LK)(F:Nat->Prop):Prop:=∃fb mb q1 q2 q3 q4 ne FC F4,LM w lb S fb mb q1 q2 q3 q4 ne FC F4∧∀i,F i↔LFK lb fb mb FC F4 i
section
variable{w w':World}{lb:Nat}{S:LK}{F:Nat->Prop}
theorem CRL.fr(h:CRL w lb S F){G:Nat->Prop}(f:Fr G w w')(g:∀i,F i->¬G i):CRL w' lb S F:=by
 obtain⟨fb,mb,q1,q2,q3,q4,ne,FC,F4,h,hF⟩:=h;exact⟨fb,mb,q1,q2,q3,q4,ne,FC,F4,h.fr f (fun i q=>g i ((hF i).2 q)),hF⟩
theorem CRL.lt(h:CRL w lb S F):∀i,F i->i<w.heap.size:=by
 obtain⟨fb,mb,q1,q2,q3,q4,ne,FC,F4,h,hF⟩:=h;exact fun i q=>h.lt i ((hF i).1 q)
theorem LFK.grown{lb fb mb:Nat}{FC F4 FC' F4':Nat->Prop}(h1:∀i,FC' i->FC i∨w.heap.size<=i)(h2:∀i,F4' i->F4 i∨w.heap.size<=i):∀i,LFK lb fb mb FC' F4' i->LFK lb fb mb FC F4 i∨w.heap.size<=i:=by
 intro i q;rcases q with q|q|q|q|q
 .exact .inl (.inl q)
 .exact .inl (.inr (.inl q))
 .exact .inl (.inr (.inr (.inl q)))
 .exact(h1 i q).elim (fun z=>.inl (.inr (.inr (.inr (.inl z))))) .inr
 .exact(h2 i q).elim (fun z=>.inl (.inr (.inr (.inr (.inr z))))) .inr
theorem crl_access(h:CRL w lb S F){at' page:Nat}(ha:at'<S.n)(hp:okN page)(hT:S.T<900000):Calls prog 144 #[.pointer (some ⟨lb,0,none⟩),.int .i64 at',.int .u32 page] w fun e w'=>e=.returned (.tuple #[])∧∃F',CRL w' lb (accS S at' page) F'∧Fr F w w'∧∀i,F' i->F i∨w.heap.size<=i:=by
 obtain⟨fb,mb,q1,q2,q3,q4,ne,FC,F4,h,hF⟩:=h;refine(access_calls h ha hp hT).mono ?_;rintro e w'⟨he,ne',FC',F4',h',f,g1,g2⟩;exact⟨he,LFK lb fb mb FC' F4',⟨fb,mb,q1,q2,q3,q4,ne',FC',F4',h',fun i=>Iff.rfl⟩,f.mono (fun i q=>(hF i).2 q),fun i q=>(LFK.grown g1 g2 i q).elim (fun z=>.inl ((hF i).2 z)) .inr⟩
theorem crl_set(h:CRL w lb S F){at':Nat}(ha:at'<S.n)(hfu:(S.fr at').1=true)(hT:S.T<1000000)(on:Bool):Calls prog 148 #[.pointer (some ⟨lb,0,none⟩),.int .i64 at',.bool on] w fun e w'=>e=.returned (.tuple #[])∧∃F',CRL w' lb (setS S at' on) F'∧Fr F w w'∧∀i,F' i->F i∨w.heap.size<=i:=by
 obtain⟨fb,mb,q1,q2,q3,q4,ne,FC,F4,h,hF⟩:=h;refine(set_callsK h ha hfu hT on).mono ?_;rintro e w'⟨he,FC',h',f,g1⟩;exact⟨he,LFK lb fb mb FC' F4,⟨fb,mb,q1,q2,q3,q4,ne,FC',F4,h',fun i=>Iff.rfl⟩,f.mono (fun i q=>(hF i).2 q),fun i q=>(LFK.grown g1 (fun i q=>.inl q) i q).elim (fun z=>.inl ((hF i).2 z)) .inr⟩
theorem crl_victim(h:CRL w lb S F)(h0:0<S.t)(page:Int)(hT:S.T<1000000)(hg:S.gone<800000)(hdom:∀x,(S.R x).isSome=true->x<S.n∧oldK S.Old (S.fr x).2=none):Calls prog 150 #[.pointer (some ⟨lb,0,none⟩),.int .u32 page] w fun e w'=>∃x:Nat,e=.returned (.tuple #[.int .i64 x,.bool true])∧∃Fb F',Aged S.R S.Fa Fb ((S.T:Int)-S.near)∧LeastC S.R Fb x∧CRL w' lb (vicS S x Fb) F'∧Fr F w w'∧∀i,F' i->F i∨w.heap.size<=i:=by
 obtain⟨fb,mb,q1,q2,q3,q4,ne,FC,F4,h,hF⟩:=h;refine(victim_yesK h h0 page hT hg hdom).mono ?_;rintro e w'⟨x,he,Fb,ne',FC',F4',ha,hl,h',f,g1,g2⟩;exact⟨x,he,Fb,LFK lb fb mb FC' F4',ha,hl,⟨fb,mb,q1,q2,q3,q4,ne',FC',F4',h',fun i=>Iff.rfl⟩,f.mono (fun i q=>(hF i).2 q),fun i q=>(LFK.grown g1 g2 i q).elim (fun z=>.inl ((hF i).2 z)) .inr⟩
theorem crl_new(n k near kept:Nat)(w:World)(hn:1<=n∧n<=65535)(hk:1<=k∧k<=8)(hr:near<=1000000)(hp:kept<=65535):Calls prog 35 #[.int .i64 n,.int .i64 k,.int .i64 near,.int .i64 kept] w fun e w'=>∃lb F,e=.returned (.tuple #[.pointer (some ⟨lb,0,none⟩),.int .i64 0])∧CRL w' lb (newS n k near kept) F∧(∀i,F i->w.heap.size<=i)∧Fr NoF w w':=by
 refine(lnew_yes n k near kept w hn hk hr hp).mono ?_;rintro e w'⟨lb,fb,mb,q1,q2,q3,q4,FC,F4,he,h,g,f⟩;exact⟨lb,LFK lb fb mb FC F4,he,⟨fb,mb,q1,q2,q3,q4,0,FC,F4,h,fun i=>Iff.rfl⟩,g,f⟩
variable{w0:World}
end
section
variable{w w':World}{lb fb mb q1 q2 q3 q4 ne:Nat}{S:LK}{FC F4:Nat->Prop}
theorem remove_callsK(h:LM w lb S fb mb q1 q2 q3 q4 ne FC F4){at':Nat}(ha:at'<S.n)(hfu:(S.fr at').1=true):Calls prog 147 #[.pointer (some ⟨lb,0,none⟩),.int .i64 at'] w fun e w'=>e=.returned (.tuple #[])∧∃ne',LM w' lb (remvS S at') fb mb q1 q2 q3 q4 ne' FC F4∧Fr (LFK lb fb mb FC F4) w w':=by
 have HI:=Hd (has_callsK h ha);rw[hfu]at HI;have HE:=Hd (empty_callsK h ha);have HA:Hid (at'<S.n):=ha;have lt:=h.blk.lt;obtain⟨PG,hPG⟩:∃PG,PG=(S.fr at').2:=⟨_,rfl⟩;have hpk:okN PG:=by rw[hPG];exact h.ok.fr at'
 have hwf:=okN_wf hpk;have HPG:=Hd hPG;have ha1:(at':Int)<S.n:=by omega
 have ha0:0<=(at':Int):=by omega
 clear h hfu ha hPG hpk;go_enter func147,ntmps147
 go_wp2_with fail
 refine HI.out.mono ?_;rintro e w1⟨rfl,rfl⟩
 go_wp2_with fail
 refine HE.out.mono ?_;rintro e w2⟨rfl,h2,f2⟩;have c4:w2.cell? ⟨lb,4,none⟩=some (.slice (some ⟨fb,0,none⟩) S.n S.n):=h2.ce 4 (by omega);have c5:w2.cell? ⟨lb,5,none⟩=some (.map (some mb)):=h2.ce 5 (by omega)
 have pgc:w2.cell? ⟨fb,at'*2+1,none⟩=some (.int .u32 (PG:Nat)):=by
  have:=h2.page (at':=at') HA.out;rw[show((updF S.fr at' (false,(S.fr at').2)) at').2=(S.fr at').2 from by rw[updF_same],<-HPG.out]at this;exact this
 have lt:=h2.blk.lt;have lf:=h2.frs.lt;have hd:=h2.fr0 ((Fr.refl NoF w2).drew);have HD:=Hd hd;have HF2:=Hd f2;clear h2 f2 hd HI HE
 go_wp2_with fail
 go_still_tail 12,(by kernel_rfl)
 change wpList _ _ _ _ _ w2.drew;generalize hwd:w2.drew=wD at*;have HWD:=Hd hwd;clear hwd
 go_wp2_with(at_delete;go_must(refine wp_delV MVp HD.out.mp rfl _ _ rfl (by rfl) (by rfl) hwf ?_);intro w6 m1 m2;have KK:=Hd (HD.out.forget m1 m2);have KF:=Hd m2;clear m1 m2)
 go_returns
 have f3:Fr (LFK lb fb mb FC F4) w wD:=by
  rw[<-HWD.out]
  exact(HF2.out.mono (fun i q=>by
   rcases q with q|q
   .exact .inr (.inl q)
   .exact .inr (.inr (.inr (.inl q))))).drew
 have hk:=KK.out;have er:remvS S at'={S with fr:=updF S.fr at' (false,(S.fr at').2),R:=updKK S.R at' none,t:=lessN S.t (S.R at').isSome,P:=updOK S.P PG none}:=by unfold remvS;rw[<-HPG.out]
 rw[er];exact⟨rfl,⟨_,hk⟩,f3.trans KF.out (fun i q=>.inl (.inr (.inr (.inl q))))⟩
theorem crl_remove{F:Nat->Prop}(h:CRL w lb S F){at':Nat}(ha:at'<S.n)(hfu:(S.fr at').1=true):Calls prog 147 #[.pointer (some ⟨lb,0,none⟩),.int .i64 at'] w fun e w'=>e=.returned (.tuple #[])∧∃F',CRL w' lb (remvS S at') F'∧Fr F w w'∧∀i,F' i->F i∨w.heap.size<=i:=by
 obtain⟨fb,mb,q1,q2,q3,q4,ne,FC,F4,h,hF⟩:=h;refine(remove_callsK h ha hfu).mono ?_;rintro e w'⟨he,ne',h',f⟩;exact⟨he,F,⟨fb,mb,q1,q2,q3,q4,ne',FC,F4,h',hF⟩,f.mono (fun i q=>(hF i).2 q),fun i q=>.inl q⟩
theorem crl_victim_no{F:Nat->Prop}(h:CRL w lb S F)(h0:S.t=0)(page:Int):Calls prog 150 #[.pointer (some ⟨lb,0,none⟩),.int .u32 page] w fun e w'=>e=.returned (.tuple #[.int .i64 0,.bool false])∧Fr NoF w w':=by
 obtain⟨fb,mb,q1,q2,q3,q4,ne,FC,F4,h,hF⟩:=h;exact victim_noK h h0 page
end
end
section
open Go.Maps Go.RowKit
def farOf(S:LK):Nat->Bool:=fun x=>match S.R x with|some p=>decide (p.2<=(S.T:Int)-S.near)|none=>false
def Goes(S:LK)(x:Nat):Prop:=LeastC S.R (farOf S) x
theorem LeastK.one{K:Nat->Option (Int×Int)}{x y:Nat}(hx:LeastK K x)(hy:LeastK K y):x=y:=by
 obtain⟨a,b,h1,h2⟩:=hx;obtain⟨c,d,h3,h4⟩:=hy;have:=h2 y c d h3;have:=h4 x a b h1;omega
theorem LeastC.one{R:Nat->Option (Int×Int)}{Fb:Nat->Bool}{x y:Nat}(hx:LeastC R Fb x)(hy:LeastC R Fb y):x=y:=by
 rcases hx with hx|⟨hx,hx2⟩
 .rcases hy with hy|⟨hy,_⟩
  .exact hx.one hy
  .obtain⟨a,b,h,_⟩:=hx
   rw[hy x]at h;cases h
 .rcases hy with hy|⟨_,hy⟩
  .obtain⟨a,b,h,_⟩:=hy
   rw[hx y]at h;cases h
  .exact hx2.one hy
theorem far_same{R:Nat->Option (Int×Int)}{Fa Fb:Nat->Bool}(h:∀x,(R x).isSome=true->Fa x=Fb x):farK R Fa=farK R Fb:=by
 funext x
 unfold farK
 cases e:R x with
 |none=>simp
 |some p=>rw[h x (by rw[e];rfl)]
theorem fresh_same{R:Nat->Option (Int×Int)}{Fa Fb:Nat->Bool}(h:∀x,(R x).isSome=true->Fa x=Fb x):freshK R Fa=freshK R Fb:=by
 funext x
 unfold freshK
 cases e:R x with
 |none=>simp
 |some p=>rw[h x (by rw[e];rfl)]
theorem LeastC.same{R:Nat->Option (Int×Int)}{Fa Fb:Nat->Bool}(h:∀x,(R x).isSome=true->Fa x=Fb x){x:Nat}(hx:LeastC R Fa x):LeastC R Fb x:=by
 unfold LeastC at*;rw[<-far_same h,<-fresh_same h];exact hx
def FaOk(S:LK)(Fa:Nat->Bool):Prop:=∀x a b,S.R x=some (a,b)->Fa x=true->b<=(S.T:Int)-S.near
theorem aged_far{S:LK}{Fa Fb:Nat->Bool}(h:FaOk S Fa)(ha:Aged S.R Fa Fb ((S.T:Int)-S.near)):∀x,(S.R x).isSome=true->Fb x=farOf S x:=by
 intro x hx;unfold farOf
 cases e:S.R x with
 |none=>rw[e]at hx;cases hx
 |some p=>
  obtain⟨a,b⟩:=p;have h1:=ha x a b e;have h2:=h x a b e;simp only;by_cases hb:b<=(S.T:Int)-S.near
  .rw[h1.2 (.inr hb)];simp[hb]
  .have:Fb x≠true:=fun q=>(h1.1 q).elim (fun q=>hb (h2 q)) hb
   rw[Bool.eq_false_iff.2 this];simp[hb]
open Classical in
noncomputable def polL:Pol LK where
 miss s _:=s
 access s f id:={accS s f id with Fa:=fun _=>false}
 set s f on:={setS s f on with Fa:=fun _=>false}
 victim s _:=if s.t=0 then none else if h:∃x,Goes s x then some h.choose else none
 gone s _:=if h:∃x,Goes s x then{vicS s h.choose s.Fa with Fa:=fun _=>false}else s
 remove s f:={remvS s f with Fa:=fun _=>false}
 size s:=s.t
 ghosts s:=s.Old.map (·.1)
open Classical in
theorem goes_some{s:LK}{x page:Nat}(h0:0<s.t)(hx:Goes s x):polL.victim s page=some x∧polL.gone s page={vicS s x s.Fa with Fa:=fun _=>false}:=by
 have he:∃x,Goes s x:=⟨x,hx⟩;have e1:he.choose=x:=he.choose_spec.one hx;constructor
 .show(if s.t=0 then none else if h:∃x,Goes s x then some h.choose else none)=some x
  rw[if_neg (by omega),dif_pos he,e1]
 .show(if h:∃x,Goes s x then({vicS s h.choose s.Fa with Fa:=fun _=>false}:LK)else s)=_
  rw[dif_pos he,e1]
def CR5(lb:Nat)(w:World)(s:LK)(F:Nat->Prop):Prop:=s.gone<800000∧∃Fa,FaOk s Fa∧CRL w lb {s with Fa:=Fa} F
def pre5(s:LK)(c:Cl):Prop:=
 (c.kind=1->c.frame<s.n∧okN c.page∧s.T<900000)∧(c.kind=2->c.frame<s.n∧(s.fr c.frame).1=true∧s.T<1000000)∧
 (c.kind=3->s.T<1000000∧s.gone+1<800000∧∀x,(s.R x).isSome=true->x<s.n∧oldK s.Old (s.fr x).2=none)∧(c.kind=4->c.frame<s.n∧(s.fr c.frame).1=true)
theorem acc_Fa(s:LK)(Fa:Nat->Bool)(f p:Nat):accS {s with Fa:=Fa} f p={accS s f p with Fa:=(accS {s with Fa:=Fa} f p).Fa}:=by
 unfold accS rerS touS comS
 split<;>split<;>rfl
theorem set_Fa(s:LK)(Fa:Nat->Bool)(f:Nat)(on:Bool):setS {s with Fa:=Fa} f on={setS s f on with Fa:=(setS {s with Fa:=Fa} f on).Fa}:=by
 unfold setS
 split
 .rfl
 .split<;>rfl
theorem rer_ok{S:LK}{Fa:Nat->Bool}(h:FaOk S Fa)(f:Nat):FaOk (rerS S f) (rerS {S with Fa:=Fa} f).Fa:=by
 unfold rerS;by_cases hR:(S.R f).isSome=true
 case neg=>rw[if_neg hR,if_neg (show¬(S.R f).isSome=true from hR)];exact h
 case pos=>
  rw[if_pos hR,if_pos (show(S.R f).isSome=true from hR)];intro x a b hx hf;by_cases e:x=f
  .subst e
   have:updB1 Fa x false x=true:=hf;rw[updB1_same]at this
   cases this
  .have h1:S.R x=some (a,b):=by rw[<-updK_otherK S.R _ e];exact hx
   have h2:Fa x=true:=by rw[<-updB1_other Fa false e];exact hf
   exact h x a b h1 h2
theorem acc_ok{s:LK}{Fa:Nat->Bool}(h:FaOk s Fa)(f p:Nat):FaOk (accS s f p) (accS {s with Fa:=Fa} f p).Fa:=by
 have h1:FaOk (comS s f p) Fa:=by unfold comS;split<;>exact h
 have h2:FaOk (touS (comS s f p) ((comS s f p).fr f).2) Fa:=fun x a b hx hf=>by
  have:=h1 x a b hx hf
  show b<=(((comS s f p).T+1:Nat):Int)-(comS s f p).near
  omega
 have e:accS {s with Fa:=Fa} f p=rerS {touS (comS s f p) ((comS s f p).fr f).2 with Fa:=Fa} f:=by
  unfold accS comS
  split<;>rfl
 rw[e];exact rer_ok h2 f
theorem set_okK{s:LK}{Fa:Nat->Bool}(h:FaOk s Fa)(f:Nat)(on:Bool):FaOk (setS s f on) (setS {s with Fa:=Fa} f on).Fa:=by
 unfold setS;by_cases hR:(s.R f).isSome=on
 .rw[if_pos hR,if_pos (show(s.R f).isSome=on from hR)];exact h
 .rw[if_neg hR,if_neg (show¬(s.R f).isSome=on from hR)]
  cases on with
  |true=>
   intro x a b hx hf;by_cases e:x=f
   .subst e
    have:updB1 Fa x false x=true:=hf;rw[updB1_same]at this
    cases this
   .have h1:s.R x=some (a,b):=by rw[<-updK_otherK s.R _ e];exact hx
    have h2:Fa x=true:=by rw[<-updB1_other Fa false e];exact hf
    exact h x a b h1 h2
  |false=>
   intro x a b hx hf;by_cases e:x=f
   .subst e
    have:updKK s.R x none x=some (a,b):=hx;rw[updK_sameK]at this
    cases this
   .have h1:s.R x=some (a,b):=by rw[<-updK_otherK s.R none e];exact hx
    exact h x a b h1 hf
theorem drop_ok{s:LK}{Fa:Nat->Bool}(h:FaOk s Fa)(f:Nat){S':LK}(hR:S'.R=updKK s.R f none)(hT:S'.T=s.T)(hn:S'.near=s.near):FaOk S' Fa:=by
 intro x a b hx hf;rw[hR]at hx;rw[hT,hn];by_cases e:x=f
 .subst e;rw[updK_sameK]at hx;cases hx
 .rw[updK_otherK _ _ e]at hx;exact h x a b hx hf
theorem gone_acc(s:LK)(f p:Nat):(accS s f p).gone=s.gone:=by unfold accS rerS touS comS;split<;>split<;>rfl
theorem gone_set(s:LK)(f:Nat)(on:Bool):(setS s f on).gone=s.gone:=by
 unfold setS
 split
 .rfl
 .split<;>rfl
theorem vic_facts(s:LK)(x:Nat)(Fb:Nat->Bool):(vicS s x Fb).R=updKK s.R x none∧(vicS s x Fb).T=s.T∧(vicS s x Fb).near=s.near∧(vicS s x Fb).gone=s.gone+1∧(vicS s x Fb).Fa=Fb∧∀Fc,vicS {s with Fa:=Fc} x Fb=vicS s x Fb:=by
 unfold vicS remS;refine⟨?_,?_,?_,?_,?_,fun Fc=>?_⟩
 .split<;>rfl
 .split<;>rfl
 .split<;>rfl
 .split<;>rfl
 .split<;>rfl
 .rfl
theorem v6'(s:LK)(x:Nat)(Fa Fb:Nat->Bool):vicS {s with Fa:=Fa} x Fb=vicS s x Fb:=rfl
theorem leastK_upto(K:Nat->Option (Int×Int)):∀m:Nat,(∀x,x<m->K x=none)∨∃x a b,x<m∧K x=some (a,b)∧∀y c d,y<m->K y=some (c,d)->a<c∨(a=c∧(b<d∨(b=d∧x<=y)))
 |0=>.inl (fun x h=>by omega)
 |m+1=>by
  cases e:K m with
  |none=>
   rcases leastK_upto K m with h|⟨x,a,b,hx,h1,h2⟩
   .exact .inl (fun x hx=>by
     by_cases q:x=m
     .rw[q];exact e
     .exact h x (by omega))
   .exact .inr ⟨x,a,b,by omega,h1,fun y c d hy hk=>by
     by_cases q:y=m
     .rw[q,e]at hk;cases hk
     .exact h2 y c d (by omega) hk⟩
  |some p=>
   obtain⟨u,v⟩:=p;rcases leastK_upto K m with h|⟨x,a,b,hx,h1,h2⟩
   .exact .inr ⟨m,u,v,by omega,e,fun y c d hy hk=>by
     by_cases q:y=m
     .subst q;rw[e]at hk;injection hk with hk;injection hk with h3 h4;omega
     .rw[h y (by omega)]at hk;cases hk⟩
   .by_cases hlt:u<a∨(u=a∧v<b)
    .exact .inr ⟨m,u,v,by omega,e,fun y c d hy hk=>by
      by_cases q:y=m
      .subst q;rw[e]at hk;injection hk with hk;injection hk with h3 h4;omega
      .have:=h2 y c d (by omega) hk
       omega⟩
    .exact .inr ⟨x,a,b,by omega,h1,fun y c d hy hk=>by
      by_cases q:y=m
      .subst q;rw[e]at hk;injection hk with hk;injection hk with h3 h4;omega
      .exact h2 y c d (by omega) hk⟩
theorem leastK_ex(K:Nat->Option (Int×Int))(n:Nat)(hn:∀x,(K x).isSome=true->x<n){z:Nat}(hz:(K z).isSome=true):∃x,LeastK K x:=by
 rcases leastK_upto K n with h|⟨x,a,b,hx,h1,h2⟩
 .rw[h z (hn z hz)]at hz;cases hz
 .exact⟨x,a,b,h1,fun y c d hk=>h2 y c d (hn y (by rw[hk];rfl)) hk⟩
theorem cntR_ex(R:Nat->Option (Int×Int)):∀{n:Nat},0<cntR R n->∃x,x<n∧(R x).isSome=true
 |n+1,h=>by
  unfold cntR at h;by_cases e:(R n).isSome=true
  .exact⟨n,by omega,e⟩
  .rw[if_neg e]at h
   obtain⟨x,h1,h2⟩:=cntR_ex R (n:=n) (by omega);exact⟨x,by omega,h2⟩
theorem goes_ex{w:World}{lb:Nat}{s:LK}{Fa:Nat->Bool}{F:Nat->Prop}(h:CRL w lb {s with Fa:=Fa} F)(h0:0<s.t)(hn:∀x,(s.R x).isSome=true->x<s.n):∃x,Goes s x:=by
 obtain⟨fb,mb,q1,q2,q3,q4,ne,FC,F4,h,hF⟩:=h;have ht:s.t=cntR s.R s.n:=h.ok.tn;rw[ht]at h0;obtain⟨z,hz,hzs⟩:=cntR_ex s.R h0;by_cases hf:∃y,(farK s.R (farOf s) y).isSome=true
 .obtain⟨y,hy⟩:=hf
  obtain⟨x,hx⟩:=leastK_ex (farK s.R (farOf s)) s.n (fun x q=>hn x (by unfold farK at q;split at q;exact q;cases q)) hy;exact⟨x,.inl hx⟩
 .have hall:∀y,farK s.R (farOf s) y=none:=fun y=>by
   cases e:farK s.R (farOf s) y with
   |none=>rfl
   |some p=>exact(hf ⟨y,by rw[e];rfl⟩).elim
  have hfz:(freshK s.R (farOf s) z).isSome=true:=by
   have h1:=hall z;unfold farK at h1;unfold freshK
   cases e:farOf s z with
   |true=>rw[e,if_pos rfl]at h1;rw[h1]at hzs;cases hzs
   |false=>exact hzs
  obtain⟨x,hx⟩:=leastK_ex (freshK s.R (farOf s)) s.n (fun x q=>hn x (by
   unfold freshK at q
   split at q
   .cases q
   .exact q)) hfz
  exact⟨x,.inr ⟨hall,hx⟩⟩
theorem vic_irr(s:LK)(x:Nat)(Fb:Nat->Bool):vicS s x Fb={vicS s x s.Fa with Fa:=Fb}:=by
 unfold vicS remS
 split<;>rfl
theorem cod5(lb:Nat):CodG polL (CR5 lb) lb pre5 146 144 148 150 147 where
 fr:=by
  rintro w w' s F G⟨hg,Fa,ho,h⟩f hd;exact⟨hg,Fa,ho,h.fr f hd⟩
 lt:=by
  rintro w s F⟨hg,Fa,ho,h⟩i q;exact h.lt i q
 miss:=by
  intro w s F c h hp hk;exact(lmiss_calls _ _ _).mono fun e w' ⟨he,hw⟩=>⟨he,F,hw▸h,hw▸Fr.refl _ _,fun i hi=>.inl hi⟩
 access:=by
  rintro w s F c⟨hg,Fa,ho,h⟩hp hk;obtain⟨h1,h2,h3⟩:=hp.1 hk;refine(crl_access h (at':=c.frame) (page:=c.page) h1 h2 h3).mono ?_;rintro e w'⟨he,F',hc,hf,hF⟩;rw[acc_Fa]at hc;exact⟨he,F',⟨by show(accS s c.frame c.page).gone<800000;rw[gone_acc];exact hg,_,acc_ok ho _ _,hc⟩,hf,hF⟩
 set:=by
  rintro w s F c⟨hg,Fa,ho,h⟩hp hk;obtain⟨h1,h2,h3⟩:=hp.2.1 hk;refine(crl_set h (at':=c.frame) h1 h2 h3 c.on).mono ?_;rintro e w'⟨he,F',hc,hf,hF⟩;rw[set_Fa]at hc;exact⟨he,F',⟨by show(setS s c.frame c.on).gone<800000;rw[gone_set];exact hg,_,set_okK ho _ _,hc⟩,hf,hF⟩
 victimNo:=by
  rintro w s F c⟨hg,Fa,ho,h⟩hp hk hv;obtain⟨h1,h2,h3⟩:=hp.2.2.1 hk;by_cases h0:s.t=0
  .exact(crl_victim_no h h0 _).mono fun e w' ⟨he,hf⟩=>⟨he,F,⟨hg,Fa,ho,h.fr hf (fun _ _ q=>q)⟩,hf.none,fun i q=>.inl q⟩
  .obtain⟨x,hx⟩:=goes_ex h (by omega) (fun x q=>(h3 x q).1)
   rw[(goes_some (by omega) hx).1]at hv
   cases hv
 victimYes:=by
  rintro w s F c a⟨hg,Fa,ho,h⟩hp hk hv;obtain⟨h1,h2,h3⟩:=hp.2.2.1 hk
  have h0:0<s.t:=by
   by_cases h0:s.t=0
   .have:polL.victim s c.page=none:=if_pos h0
    rw[this]at hv;cases hv
   .omega
  refine(crl_victim h h0 c.page h1 hg h3).mono ?_;rintro e w'⟨x,he,Fb,F',ha,hl,hc,hf,hF⟩;have hx:Goes s x:=hl.same (aged_far ho ha);obtain⟨e1,e2⟩:=goes_some (page:=c.page) h0 hx;rw[e1]at hv
  injection hv with hv
  subst hv;rw[e2];obtain⟨v1,v2,v3,v4,v5,v6⟩:=vic_facts s x s.Fa;rw[v6' s x Fa Fb,vic_irr]at hc;refine⟨he,F',⟨by show(vicS s x s.Fa).gone<800000;rw[v4];exact h2,Fb,?_,hc⟩,hf,hF⟩
  have hfb:FaOk s Fb:=fun z p q hz hq=>by
   have:=(ha z p q hz).1 hq;rcases this with q'|q'
   .exact ho z p q hz q'
   .exact q'
  exact drop_ok hfb x v1 v2 v3
 remove:=by
  rintro w s F c⟨hg,Fa,ho,h⟩hp hk;obtain⟨h1,h2⟩:=hp.2.2.2 hk;refine(crl_remove h (at':=c.frame) h1 h2).mono ?_;rintro e w'⟨he,F',hc,hf,hF⟩;exact⟨he,F',⟨hg,Fa,drop_ok ho c.frame rfl rfl rfl,hc⟩,hf,hF⟩
end
section
open Go.RowKit
structure Ok5(n:Nat)(m:Nat)(s:LK)(pg:Nat->Nat)(ev:Nat->Bool):Prop where
 en:s.n=n
 T:s.T<=m
 g:s.gone<=m
 f1:∀f,f<n->(s.fr f).1=!decide (pg f=0)
 f2:∀f,f<n->¬pg f=0->(s.fr f).2=pg f
 R:∀f,(s.R f).isSome=true↔Goer n pg ev f
 t:s.t=cntR s.R s.n
 O:∀f,f<n->¬pg f=0->∀p∈s.Old,¬p.1=pg f
 ij:∀f g,f<n->g<n->¬pg f=0->pg f=pg g->f=g
def ok5(n:Nat)(m:Nat)(s:LK)(pg:Nat->Nat)(ev:Nat->Bool):Prop:=Ok5 n m s pg ev
theorem goes_noP{s:LK}{id:Nat}(h0:¬s.t=0)(q:¬∃x,Goes s x):polL.victim s id=none:=by
 unfold polL
 dsimp only
 rw[if_neg h0,dif_neg q]
theorem goes_exP{s:LK}{z:Nat}(hn:∀x,(s.R x).isSome=true->x<s.n)(hzs:(s.R z).isSome=true):∃x,Goes s x:=by
 by_cases hf:∃y,(farK s.R (farOf s) y).isSome=true
 .obtain⟨y,hy⟩:=hf
  obtain⟨x,hx⟩:=leastK_ex (farK s.R (farOf s)) s.n (fun x q=>hn x (by unfold farK at q;split at q;exact q;cases q)) hy;exact⟨x,.inl hx⟩
 .have hall:∀y,farK s.R (farOf s) y=none:=fun y=>by
   cases e:farK s.R (farOf s) y with
   |none=>rfl
   |some p=>exact(hf ⟨y,by rw[e];rfl⟩).elim
  have hfz:(freshK s.R (farOf s) z).isSome=true:=by
   have h1:=hall z;unfold farK at h1;unfold freshK
   cases e:farOf s z with
   |true=>rw[e,if_pos rfl]at h1;rw[h1]at hzs;cases hzs
   |false=>exact hzs
  obtain⟨x,hx⟩:=leastK_ex (freshK s.R (farOf s)) s.n (fun x q=>hn x (by
   unfold freshK at q
   split at q
   .cases q
   .exact q)) hfz
  exact⟨x,.inr ⟨hall,hx⟩⟩
section
variable{n m k id:Nat}{s s':LK}{pg pg':Nat->Nat}{ev ev':Nat->Bool}
theorem Ok5.lt(h:Ok5 n m s pg ev){x:Nat}(q:(s.R x).isSome=true):x<n:=((h.R x).1 q).1
theorem Ok5.rank(h:Ok5 n m s pg ev)(e1:s'.n=s.n)(e2:s'.T<=m+1)(e3:s'.gone=s.gone)(e4:s'.fr=s.fr)(e5:∀x,(s'.R x).isSome=(s.R x).isSome)(e6:s'.t=s.t)(e7:∀p∈s'.Old,p∈s.Old):Ok5 n (m+1) s' pg ev:=by
 refine⟨by rw[e1];exact h.en,e2,by have:=h.g;omega,fun f hf=>by rw[e4];exact h.f1 f hf,fun f hf=>by rw[e4];exact h.f2 f hf,fun f=>by rw[e5];exact h.R f,?_,fun f hf q p hp=>h.O f hf q p (e7 p hp),h.ij⟩;rw[e6,h.t,e1]
 have:∀j,cntR s.R j=cntR s'.R j:=fun j=>by
  induction j with
  |zero=>rfl
  |succ j ih=>unfold cntR;rw[ih,e5]
 exact this _
theorem goer_same(hpg:∀i,i<n->pg i=pg' i)(hev:∀i,i<n->¬pg i=0->ev i=ev' i)(x:Nat):Goer n pg ev x↔Goer n pg' ev' x:=by
 unfold Goer;constructor
 .rintro⟨a,b,c⟩;exact⟨a,by rw[<-hpg x a];exact b,by rw[<-hev x a b];exact c⟩
 .rintro⟨a,b,c⟩
  have b':¬pg x=0:=by rw[hpg x a];exact b
  exact⟨a,b',by rw[hev x a b'];exact c⟩
theorem acc_f(s:LK)(k id:Nat):(accS s k id).n=s.n∧(accS s k id).T=s.T+1∧(accS s k id).gone=s.gone∧(accS s k id).t=s.t∧(accS s k id).fr=(comS s k id).fr∧(accS s k id).Old=(comS s k id).Old∧∀x,((accS s k id).R x).isSome=(s.R x).isSome:=by
 have hR:∀(S:LK) (x:Nat),((rerS S k).R x).isSome=(S.R x).isSome:=fun S x=>by
  unfold rerS
  split
  .rename_i q
   show(updKK S.R k _ x).isSome=_
   by_cases c:x=k
   .subst c;rw[updK_sameK];rw[q];rfl
   .rw[updK_otherK _ _ c]
  .rfl
 have hr:∀S:LK,(rerS S k).n=S.n∧(rerS S k).T=S.T∧(rerS S k).gone=S.gone∧(rerS S k).t=S.t∧(rerS S k).fr=S.fr∧(rerS S k).Old=S.Old:=fun S=>by
  unfold rerS;split<;>exact⟨rfl,rfl,rfl,rfl,rfl,rfl⟩
 have hc:(comS s k id).n=s.n∧(comS s k id).T=s.T∧(comS s k id).gone=s.gone∧(comS s k id).t=s.t∧(comS s k id).R=s.R:=by
  unfold comS;split<;>exact⟨rfl,rfl,rfl,rfl,rfl⟩
 unfold accS;obtain⟨r1,r2,r3,r4,r5,r6⟩:=hr (touS (comS s k id) ((comS s k id).fr k).2);obtain⟨c1,c2,c3,c4,c5⟩:=hc;refine⟨r1.trans c1,r2.trans (by show(comS s k id).T+1=_;rw[c2]),r3.trans c3,r4.trans c4,r5,r6,fun x=>?_⟩;rw[hR]
 show((comS s k id).R x).isSome=_
 rw[c5]
theorem woO_memQ{l:List (Nat×Nat)}{x:Nat}{p:Nat×Nat}:p∈woO l x↔p∈l∧¬p.1=x:=by
 unfold woO;rw[List.mem_filter];simp
end
theorem okS5(n:Nat):OkSys polL pre5 n (ok5 n) where
 more:=fun{m k s pg ev} h hk=>⟨h.en,Nat.le_trans h.T hk,Nat.le_trans h.g hk,h.f1,h.f2,h.R,h.t,h.O,h.ij⟩
 same:=fun{m s pg pg' ev ev'} h e1 e2=>⟨h.en,h.T,h.g,fun f hf=>by rw[<-e1 f hf];exact h.f1 f hf,fun f hf q=>by rw[<-e1 f hf]at q⊢;exact h.f2 f hf q,fun f=>(h.R f).trans (goer_same e1 e2 f),h.t,fun f hf q=>by rw[<-e1 f hf]at q⊢;exact h.O f hf q,fun f g hf hg q e=>by rw[<-e1 f hf]at q e;rw[<-e1 g hg]at e;exact h.ij f g hf hg q e⟩
 pMiss:=fun _ _ _ _ _=>⟨fun q=>(by cases q),fun q=>(by cases q),fun q=>(by cases q),fun q=>(by cases q)⟩
 pAcc:=fun{m s pg ev id k} h hm _ h2 hk _=>⟨fun _=>⟨by show k<s.n;rw[h.en];exact hk,h2,by have:=h.T;show s.T<_;omega⟩,fun q=>(by cases q),fun q=>(by cases q),fun q=>(by cases q)⟩
 pSet:=fun{m s pg ev k} b h hm hk hx=>⟨fun q=>(by cases q),fun _=>⟨by show k<s.n;rw[h.en];exact hk,by show(s.fr k).1=true;rw[h.f1 k hk];simp[hx],by have:=h.T;show s.T<_;omega⟩,fun q=>(by cases q),fun q=>(by cases q)⟩
 pVic:=fun{m s pg ev id} h hm _ _ _=>⟨fun q=>(by cases q),fun q=>(by cases q),fun _=>⟨by have:=h.T;show s.T<_;omega,by have:=h.g;show s.gone+1<_;omega,fun x hx=>by
  obtain⟨g1,g2,_⟩:=(h.R x).1 hx;exact⟨by rw[h.en];exact g1,oldK_none.2 (fun p hp=>by rw[h.f2 x g1 g2];exact h.O x g1 g2 p hp)⟩⟩,fun q=>(by cases q)⟩
 pRem:=fun{m s pg ev k} h hm hk hx=>⟨fun q=>(by cases q),fun q=>(by cases q),fun q=>(by cases q),fun _=>⟨by show k<s.n;rw[h.en];exact hk,by show(s.fr k).1=true;rw[h.f1 k hk];simp[hx]⟩⟩
 okMiss:=fun{m s pg ev id} h _ _ _=>⟨h.en,Nat.le_succ_of_le h.T,Nat.le_succ_of_le h.g,h.f1,h.f2,h.R,h.t,h.O,h.ij⟩
 okNew:=fun{m s pg ev id k} h _ h1 _ hk h0 hn=>by
  obtain⟨a1,a2,a3,a4,a5,a6,a7⟩:=acc_f s k id;have hf:(s.fr k).1=false:=by rw[h.f1 k hk];simp[h0]
  have hc:comS s k id={s with fr:=updF s.fr k (true,id),Old:=woO s.Old id}:=by unfold comS;rw[hf];rfl
  rw[hc]at a5 a6;refine⟨by show(accS s k id).n=n;rw[a1];exact h.en,by show(accS s k id).T<=_;rw[a2];have:=h.T;omega,by show(accS s k id).gone<=_;rw[a3];exact Nat.le_succ_of_le h.g,fun f hf=>?_,fun f hf q=>?_,fun f=>?_,?_,fun f hf q p hp=>?_,fun f g hf hg q e=>?_⟩
  .show((accS s k id).fr f).1=_
   rw[a5]
   show(updF s.fr k (true,id) f).1=_
   by_cases c:f=k
   .subst c;rw[updF_same,upd_same];simp;omega
   .rw[updF_other _ _ c,upd_other _ _ c];exact h.f1 f hf
  .show((accS s k id).fr f).2=_
   rw[a5]
   show(updF s.fr k (true,id) f).2=_
   by_cases c:f=k
   .subst c;rw[updF_same,upd_same]
   .rw[upd_other _ _ c]at q;rw[updF_other _ _ c,upd_other _ _ c];exact h.f2 f hf q
  .show((accS s k id).R f).isSome=true↔_
   rw[a7,h.R];unfold Goer;by_cases c:f=k
   .subst c;rw[upd_same,upd_same];exact⟨fun q=>(q.2.1 h0).elim,fun q=>(by cases q.2.2)⟩
   .rw[upd_other _ _ c,upd_other _ _ c]
  .show(accS s k id).t=cntR (accS s k id).R (accS s k id).n
   rw[a4,a1,h.t]
   have:∀j,cntR s.R j=cntR (accS s k id).R j:=fun j=>by
    induction j with
    |zero=>rfl
    |succ j ih=>unfold cntR;rw[ih,a7]
   exact this _
  .have hp:p∈(accS s k id).Old:=hp
   rw[a6]at hp;obtain⟨p1,p2⟩:=woO_memQ.1 hp;by_cases c:f=k
   .subst c;rw[upd_same];exact p2
   .rw[upd_other _ _ c]at q⊢;exact h.O f hf q p p1
  .by_cases c:f=k
   .by_cases d:g=k
    .rw[c,d]
    .rw[c,upd_same,upd_other _ _ d]at e;exact(hn g hg e.symm).elim
   .by_cases d:g=k
    .rw[d,upd_same,upd_other _ _ c]at e;exact(hn f hf e).elim
    .rw[upd_other _ _ c]at q e;rw[upd_other _ _ d]at e;exact h.ij f g hf hg q e
 okOld:=fun{m s pg ev id k} h _ h1 hk h0=>by
  obtain⟨a1,a2,a3,a4,a5,a6,a7⟩:=acc_f s k id;have hf:(s.fr k).1=true:=by rw[h.f1 k hk];simp;omega
  have hc:comS s k id=s:=by unfold comS;rw[hf];rfl
  rw[hc]at a5 a6;exact h.rank (s':={accS s k id with Fa:=fun _=>false}) a1 (by show(accS s k id).T<=_;rw[a2];have:=h.T;omega) a3 a5 a7 a4 (fun p hp=>by have hp:p∈(accS s k id).Old:=hp;rw[a6]at hp;exact hp)
 okSet:=fun{m s pg ev k} b h _ hk hx=>by
  have hks:k<s.n:=by rw[h.en];exact hk
  have hG:(s.R k).isSome=ev k:=by
   cases e:ev k with
   |true=>exact(h.R k).2 ⟨hk,hx,e⟩
   |false=>
    cases c:(s.R k).isSome with
    |false=>rfl
    |true=>have:=((h.R k).1 c).2.2;rw[e]at this;cases this
  show ok5 n (m+1) ({setS s k b with Fa:=fun _=>false}:LK) pg (upd ev k b)
  unfold setS;by_cases c:(s.R k).isSome=b
  .rw[if_pos c]
   refine⟨h.en,Nat.le_succ_of_le h.T,Nat.le_succ_of_le h.g,h.f1,h.f2,fun f=>(h.R f).trans (goer_same (fun _ _=>rfl) (fun i _ _=>?_) f),h.t,h.O,h.ij⟩;by_cases d:i=k
   .subst d;rw[upd_same,<-c,hG]
   .rw[upd_other _ _ d]
  .rw[if_neg c]
   have hR:∀(y:Option (Int×Int)),y.isSome=b->∀f,(updKK s.R k y f).isSome=true↔Goer n pg (upd ev k b) f:=fun y hy f=>by
    by_cases d:f=k
    .subst d
     rw[updK_sameK,hy];unfold Goer;rw[upd_same];exact⟨fun q=>⟨hk,hx,q⟩,fun q=>q.2.2⟩
    .rw[updK_otherK _ _ d,h.R]
     unfold Goer;rw[upd_other _ _ d]
   cases b with
   |true=>
    rw[if_pos rfl];refine⟨h.en,Nat.le_succ_of_le h.T,Nat.le_succ_of_le h.g,h.f1,h.f2,hR _ rfl,?_,h.O,h.ij⟩
    show s.t+1=cntR (updKK s.R k _) s.n
    rw[cntR_put _ _ hks,h.t];have:(s.R k).isSome=false:=by simpa using c
    rw[this];rfl
   |false=>
    rw[if_neg (by simp)];refine⟨h.en,Nat.le_succ_of_le h.T,Nat.le_succ_of_le h.g,h.f1,h.f2,hR _ rfl,?_,h.O,h.ij⟩
    show s.t-1=cntR (updKK s.R k _) s.n
    rw[cntR_drop _ hks,h.t]
    have:(s.R k).isSome=true:=by
     cases e:(s.R k).isSome with
     |true=>rfl
     |false=>exact(c e).elim
    rw[this];rfl
 okRem:=fun{m s pg ev k} h _ hk hx=>by
  have hks:k<s.n:=by rw[h.en];exact hk
  show ok5 n (m+1) ({remvS s k with Fa:=fun _=>false}:LK) _ _
  unfold remvS;refine⟨h.en,Nat.le_succ_of_le h.T,Nat.le_succ_of_le h.g,fun f hf=>?_,fun f hf q=>?_,fun f=>?_,?_,fun f hf q p hp=>?_,fun f g hf hg q e=>?_⟩
  .show(updF s.fr k _ f).1=_
   by_cases c:f=k
   .subst c;rw[updF_same,upd_same];rfl
   .rw[updF_other _ _ c,upd_other _ _ c];exact h.f1 f hf
  .show(updF s.fr k _ f).2=_
   by_cases c:f=k
   .subst c;rw[upd_same]at q;exact(q rfl).elim
   .rw[upd_other _ _ c]at q;rw[updF_other _ _ c,upd_other _ _ c];exact h.f2 f hf q
  .show(updKK s.R k none f).isSome=true↔_
   unfold Goer;by_cases c:f=k
   .subst c;rw[updK_sameK,upd_same];exact⟨fun q=>(by cases q),fun q=>(q.2.1 rfl).elim⟩
   .rw[updK_otherK _ _ c,upd_other _ _ c,upd_other _ _ c];exact h.R f
  .show lessN s.t (s.R k).isSome=cntR (updKK s.R k none) s.n
   rw[cntR_drop _ hks,h.t]
  .by_cases c:f=k
   .subst c;rw[upd_same]at q;exact(q rfl).elim
   .rw[upd_other _ _ c]at q⊢;exact h.O f hf q p hp
  .by_cases c:f=k
   .subst c;rw[upd_same]at q;exact(q rfl).elim
   .by_cases d:g=k
    .rw[d,upd_same]at e;exact(q e).elim
    .rw[upd_other _ _ c]at q e;rw[upd_other _ _ d]at e;exact h.ij f g hf hg q e
 goer:=fun{m s pg ev id x} h hv=>by
  have hv:polL.victim s id=some x:=hv;by_cases h0:s.t=0
  .have:polL.victim s id=none:=if_pos h0
   rw[this]at hv;cases hv
  .have hex:∃x,Goes s x:=by
    apply Classical.byContradiction;intro q
    have:polL.victim s id=none:=by
     show polL.victim s id=none
     exact goes_noP h0 q
    rw[this]at hv;cases hv
   obtain⟨y,hy⟩:=hex;rw[(goes_some (by omega) hy).1]at hv
   injection hv with hv
   subst hv;exact(h.R y).1 (LeastC.some hy)
 some:=fun{m s pg ev id} h ⟨x,hx⟩ hv=>by
  have hR:=(h.R x).2 hx;have h0:0<s.t:=by rw[h.t];exact cntR_pos _ (by rw[h.en];exact hx.1) hR
  obtain⟨y,hy⟩:=goes_exP (s:=s) (fun x q=>by rw[h.en];exact h.lt q) hR;have hv:polL.victim s id=none:=hv;rw[(goes_some h0 hy).1]at hv
  cases hv
 okGone:=fun{m s pg ev id x} h _ h1 hn hv=>by
  have hv:polL.victim s id=some x:=hv
  have h0:¬s.t=0:=fun h0=>by
   have:polL.victim s id=none:=if_pos h0;rw[this]at hv;cases hv
  have hex:∃x,Goes s x:=by
   apply Classical.byContradiction;intro q
   have:polL.victim s id=none:=by
    exact goes_noP h0 q
   rw[this]at hv;cases hv
  obtain⟨y,hy⟩:=hex;obtain⟨g1,g2⟩:=goes_some (page:=id) (show 0<s.t by omega) hy;rw[g1]at hv
  injection hv with hv
  subst hv;rw[g2];have hRy:=LeastC.some hy;obtain⟨b1,b2,b3⟩:=(h.R y).1 hRy;have hys:y<s.n:=by rw[h.en];exact b1
  obtain⟨v1,v2,v3,v4,_⟩:=vic_facts s y s.Fa
  have w1:(vicS s y s.Fa).n=s.n∧(vicS s y s.Fa).fr=updF s.fr y (false,(s.fr y).2)∧(vicS s y s.Fa).t=s.t-1∧∀p∈(vicS s y s.Fa).Old,p∈s.Old∨p.1=(s.fr y).2:=by
   unfold vicS remS
   split
   .refine⟨rfl,rfl,rfl,fun p hp=>?_⟩
    have hp:p∈(s.Old++[((s.fr y).2,s.gone+1)]).tail:=hp;rcases List.mem_append.1 (List.mem_of_mem_tail hp)with q|q
    .exact .inl q
    .rw[List.mem_singleton.1 q];exact .inr rfl
   .refine⟨rfl,rfl,rfl,fun p hp=>?_⟩
    have hp:p∈s.Old++[((s.fr y).2,s.gone+1)]:=hp;rcases List.mem_append.1 hp with q|q
    .exact .inl q
    .rw[List.mem_singleton.1 q];exact .inr rfl
  obtain⟨w1,w2,w3,w4⟩:=w1;refine⟨by show(vicS s y s.Fa).n=n;rw[w1];exact h.en,by show(vicS s y s.Fa).T<=_;rw[v2];exact Nat.le_succ_of_le h.T,by show(vicS s y s.Fa).gone<=_;rw[v4];have:=h.g;omega,fun f hf=>?_,fun f hf q=>?_,fun f=>?_,?_,fun f hf q p hp=>?_,fun f g hf hg q e=>?_⟩
  .show((vicS s y s.Fa).fr f).1=_
   rw[w2];by_cases c:f=y
   .subst c;rw[updF_same,upd_same];rfl
   .rw[updF_other _ _ c,upd_other _ _ c];exact h.f1 f hf
  .show((vicS s y s.Fa).fr f).2=_
   rw[w2];by_cases c:f=y
   .subst c;rw[upd_same]at q;exact(q rfl).elim
   .rw[upd_other _ _ c]at q;rw[updF_other _ _ c,upd_other _ _ c];exact h.f2 f hf q
  .show((vicS s y s.Fa).R f).isSome=true↔_
   rw[v1];unfold Goer;by_cases c:f=y
   .subst c;rw[updK_sameK,upd_same];exact⟨fun q=>(by cases q),fun q=>(q.2.1 rfl).elim⟩
   .rw[updK_otherK _ _ c,upd_other _ _ c,upd_other _ _ c];exact h.R f
  .show(vicS s y s.Fa).t=cntR (vicS s y s.Fa).R (vicS s y s.Fa).n
   rw[w3,v1,w1,cntR_drop _ hys,h.t,hRy];rfl
  .have hp:p∈(vicS s y s.Fa).Old:=hp
   by_cases c:f=y
   .subst c;rw[upd_same]at q;exact(q rfl).elim
   .rw[upd_other _ _ c]at q⊢
    rcases w4 p hp with r|r
    .exact h.O f hf q p r
    .rw[r,h.f2 y b1 b2]
     exact fun e=>c (h.ij f y hf b1 q e.symm)
  .by_cases c:f=y
   .subst c;rw[upd_same]at q;exact(q rfl).elim
   .by_cases d:g=y
    .rw[d,upd_same]at e;exact(q e).elim
    .rw[upd_other _ _ c]at q e;rw[upd_other _ _ d]at e;exact h.ij f g hf hg q e
theorem rep5(pb lb n:Nat):RepSys (advOf polL) (CR5 lb) pb (repV5 lb) n (ok5 n):=repOf (cod5 lb) (clo5 lb) (okS5 n)
end
end Go.Proofs.YtipopinjppjnfaaGreatDoor
