/- Part 16. -/
import Derived.Test.YtoenclhimbpfeaaGreatDoorW14
namespace Go.Proofs.YtoenclhimbpfeaaGreatDoor
set_option linter.all false
set_option maxHeartbeats 16000000
set_option maxRecDepth 100000
section
open Go.Maps Go.Proofs.Tryz Go.RowKit
structure D3(l m s:List Nat):Prop where
 lm:∀x∈l,¬x∈m
 ls:∀x∈l,¬x∈s
 ms:∀x∈m,¬x∈s
structure R3(n:Nat)(l m s:List Nat):Prop extends D3 l m s where
 nl:l.Nodup
 nm:m.Nodup
 ns:s.Nodup
 bl:∀x∈l,x<n
 bm:∀x∈m,x<n
 bs:∀x∈s,x<n
theorem RR.row3{w:World}{b n:Nat}{l m s:List Nat}{F:Nat->Prop}(h:RR w b n 3 [l,m,s] F):R3 n l m s:=by
 obtain⟨nb,lb,rw,nx,pv,ls,hc,hi,hF⟩:=h.ex;have m0:=hi.mem 0 l rfl;have m1:=hi.mem 1 m rfl;have m2:=hi.mem 2 s rfl;refine⟨⟨λx hx hm=>?_,λx hx hm=>?_,λx hx hm=>?_⟩,hi.nd 0 l rfl,hi.nd 1 m rfl,hi.nd 2 s rfl,λx hx=>(m0 x hx).1,λx hx=>(m1 x hx).1,λx hx=>(m2 x hx).1⟩
 .have h1:=(m0 x hx).2
  have h2:=(m1 x hm).2;omega
 .have h1:=(m0 x hx).2
  have h2:=(m2 x hm).2;omega
 .have h1:=(m1 x hx).2
  have h2:=(m2 x hm).2;omega
theorem ko(l m s:List Nat)(x:Nat):aG [l,m,s] x=if x∈l then some 0 else if x∈m then some 1 else if x∈s then some 2 else none:=by
 by_cases h:x∈l
 .simp[aG,List.findIdx?_cons,h]
 .by_cases h2:x∈m
  .simp[aG,List.findIdx?_cons,h,h2]
  .by_cases h3:x∈s<;>simp[aG,List.findIdx?_cons,h,h2,h3]
theorem BJ{l m s:List Nat}(hd:D3 l m s)(x:Nat):bO [l,m,s] x=[ac l x,ac m x,ac s x]:=by
 by_cases h:x∈l
 .rw[ah (hd.lm x h),ah (hd.ls x h)];simp[bO,ko,h,ac]
 .by_cases h2:x∈m
  .rw[ah h,ah (hd.ms x h2)];simp[bO,ko,h,h2,ac]
  .by_cases h3:x∈s
   .rw[ah h,ah h2];simp[bO,ko,h,h2,h3,ac]
   .rw[ah h,ah h2,ah h3];simp[bO,ko,h,h2,h3]
theorem CL{l m s:List Nat}(hd:D3 l m s)(x:Nat):cH [l,m,s] 0 x false=[ac l x++[x],ac m x,ac s x]:=by simp[cH,BJ hd]
theorem C0{l m s:List Nat}(hd:D3 l m s)(x:Nat):cH [l,m,s] 1 x false=[ac l x,ac m x++[x],ac s x]:=by simp[cH,BJ hd]
theorem vB{l m s:List Nat}(hd:D3 l m s)(x:Nat):cH [l,m,s] 2 x false=[ac l x,ac m x,ac s x++[x]]:=by simp[cH,BJ hd]
theorem ix3(l m s:List Nat)(f:Nat):ixI (ixZ [l,m,s] (f:Int))=if f∈l then 0 else if f∈m then 1 else if f∈s then 2 else-1:=by
 rw[dA,ko]
 split
 .rfl
 .split
  .rfl
  .split<;>rfl
structure GA(w:World)(gr gpb mb out:Nat)(k1 k2 sp:List Nat)(gp:Nat->Nat)(b1 b2:List Nat)(FG:Nat->Prop):Prop where
 rr:RR w gr out 3 [k1,k2,sp] FG
 pg:Blk w gpb out (uN gp)
 mp:MpN prog 34 3 .u32 .i64 w mb (k1++k2).length (mOf (k1++k2) gp)
 h1:b1=k1.map gp
 h2:b2=k2.map gp
 nd:(b1++b2).Nodup
 tl:k1.length+k2.length+sp.length=out
 lt:∀x∈b1++b2,aK x
 hn:out<=65536
 d1:¬FG gpb
 d2:¬FG mb
 d3:¬gpb=mb
theorem GA.fr{w w':World}{gr gpb mb out:Nat}{k1 k2 sp:List Nat}{gp:Nat->Nat}{b1 b2:List Nat}{FG G:Nat->Prop}(h:GA w gr gpb mb out k1 k2 sp gp b1 b2 FG)(f:Fr G w w')(q1:∀i,FG i->¬G i)(q2:¬G gpb)(q3:¬G mb):GA w' gr gpb mb out k1 k2 sp gp b1 b2 FG:=
 ⟨h.rr.fr f q1,h.pg.fr f q2,h.mp.fr f q3,h.h1,h.h2,h.nd,h.tl,h.lt,h.hn,h.d1,h.d2,h.d3⟩
def sideN(b1 b2:List Nat)(x:Nat):Int:=if x∈b1 then 0 else if x∈b2 then 1 else-1
def cQ(w:World)(gr gpb mb out:Nat)(b1 b2:List Nat)(FG:Nat->Prop)(w':World):Prop:=∃k1 k2 sp gp,GA w' gr gpb mb out k1 k2 sp gp b1 b2 FG/\Fr (FGm FG gpb mb) w w'
section
variable{w w':World}{b gr gpb mb out:Nat}{k1 k2 sp:List Nat}{gp:Nat->Nat}{b1 b2:List Nat}{FG:Nat->Prop}
theorem GA.fr0(h:GA w gr gpb mb out k1 k2 sp gp b1 b2 FG)(f:Fr NoF w w'):GA w' gr gpb mb out k1 k2 sp gp b1 b2 FG:=h.fr f (λ_ _ q=>q) id id
theorem GA.ndk(h:GA w gr gpb mb out k1 k2 sp gp b1 b2 FG):((k1++k2).map gp).Nodup:=by rw[List.map_append,<-h.h1,<-h.h2];exact h.nd
theorem GA.len(h:GA w gr gpb mb out k1 k2 sp gp b1 b2 FG):b1.length=k1.length/\b2.length=k2.length:=by rw[h.h1,h.h2];simp
theorem GA.mem(h:GA w gr gpb mb out k1 k2 sp gp b1 b2 FG){x:Nat}(hx:x∈b1++b2):∃p,p∈k1++k2/\gp p=x:=by
 rw[h.h1,h.h2,<-List.map_append]at hx;obtain⟨p,hp,e⟩:=List.mem_map.1 hx;exact⟨p,hp,e⟩
theorem GA.nope(h:GA w gr gpb mb out k1 k2 sp gp b1 b2 FG){x:Nat}(hm:¬x∈b1++b2):mOf (k1++k2) gp (x:Int)=none:=by
 refine lz ?_;rw[List.map_append,<-h.h1,<-h.h2];exact hm
theorem GA.side(h:GA w gr gpb mb out k1 k2 sp gp b1 b2 FG){p:Nat}(hp:p∈k1++k2):sideN b1 b2 (gp p)=if p∈k1 then 0 else if p∈k2 then 1 else if p∈sp then 2 else-1:=by
 have hn:=h.ndk;unfold sideN;by_cases h1:p∈k1
 .rw[if_pos h1,if_pos]
  rw[h.h1];exact List.mem_map.2 ⟨p,h1,rfl⟩
 .have h2:p∈k2:=(List.mem_append.1 hp).resolve_left h1
  rw[if_neg h1,if_pos h2,if_neg,if_pos]
  .rw[h.h2];exact List.mem_map.2 ⟨p,h2,rfl⟩
  .rw[h.h1]
   intro q;obtain⟨y,hy,e⟩:=List.mem_map.1 q;have:=ji hn (List.mem_append.2 (.inl hy)) hp e;exact h1 (this▸hy)
theorem j9(h:GA w gr gpb mb out k1 k2 sp gp b1 b2 FG)(g:GH w b gr gpb mb out FG):Calls prog 234 #[.pointer (some ⟨b,5,none⟩),.int .i64 0] w λe w'=>e=.returned (.int .i64 (b1.length:Nat))/\w=w':=by
 have c5:=g.c5;have HL:=dt h.rr 0;rw[show bZ [k1,k2,sp] 0=k1 from rfl,<-h.len.1]at HL;have HL:=Hd HL;clear h g;go_enter func234,ntmps234
 go_wp2_with(go_at_call 216;refine HL.out.mono ?_;rintro e w'⟨rfl,rfl⟩)
 go_returns;exact⟨rfl,rfl⟩
theorem kg(h:GA w gr gpb mb out k1 k2 sp gp b1 b2 FG)(g:GH w b gr gpb mb out FG):Calls prog 234 #[.pointer (some ⟨b,5,none⟩),.int .i64 1] w λe w'=>e=.returned (.int .i64 (b2.length:Nat))/\w=w':=by
 have c5:=g.c5;have HL:=dt h.rr 1;rw[show bZ [k1,k2,sp] 1=k2 from rfl,<-h.len.2]at HL;have HL:=Hd HL;clear h g;go_enter func234,ntmps234
 go_wp2_with(go_at_call 216;refine HL.out.mono ?_;rintro e w'⟨rfl,rfl⟩)
 go_returns;exact⟨rfl,rfl⟩
theorem j5(h:GA w gr gpb mb out k1 k2 sp gp b1 b2 FG)(g:GH w b gr gpb mb out FG){x:Nat}(hx:aK x):
  Calls prog 229 #[.pointer (some ⟨b,5,none⟩),.int .u32 x] w λe w'=>e=.returned (.int .i64 (sideN b1 b2 x))/\w=w':=by
 have c5:=g.c5;have c7:=g.c7;have HM:=Hd h.mp;have HW:=Hd hx.wf;by_cases hm:x∈b1++b2
 .obtain⟨p,hp,rfl⟩:=h.mem hm
  have HI:=fj h.rr p;rw[ix3,<-h.side hp]at HI;have HI:=Hd HI;have HX:=Hd (bV h.ndk hp);clear h g hx hm;generalize sideN b1 b2 (gp p)=z at*;generalize gp p=x at*;go_enter func229,ntmps229
  go_wp2_with(first
   |(at_lookup;go_must(refine bB MIg HM.out HX.out rfl _ _ rfl (by rfl) (by rfl) HW.out ?_))
   |(go_at_call 112;refine HI.out.mono ?_;rintro e w'⟨rfl,rfl⟩))
  go_returns;exact⟨rfl,rfl⟩
 .have HX:=Hd (h.nope hm)
  have HE:Hid (sideN b1 b2 x= -1):=by
   have h1:¬x∈b1:=λq=>hm (List.mem_append.2 (.inl q))
   have h2:¬x∈b2:=λq=>hm (List.mem_append.2 (.inr q))
   unfold Hid sideN;rw[if_neg h1,if_neg h2]
  rw[HE.out];clear h g hx hm HE;go_enter func229,ntmps229
  go_wp2_with(at_lookup;go_must(refine bz MIg HM.out HX.out rfl _ _ rfl (by rfl) (by rfl) HW.out ?_))
  go_returns;exact⟨rfl,rfl⟩
theorem im(h:GA w gr gpb mb out k1 k2 sp gp b1 b2 FG)(g:GH w b gr gpb mb out FG){x:Nat}(hx:aK x)(hm:¬x∈b1++b2):
  Calls prog 228 #[.pointer (some ⟨b,5,none⟩),.int .u32 x] w λe w'=>e=.returned (.bool false)/\w=w':=by
 have c7:=g.c7;have HM:=Hd h.mp;have HX:=Hd (h.nope hm);have HW:=Hd hx.wf;clear h g hx hm;go_enter func228,ntmps228
 go_wp2_with(at_lookup;go_must(refine bz MIg HM.out HX.out rfl _ _ rfl (by rfl) (by rfl) HW.out ?_))
 go_returns;exact⟨rfl,rfl⟩
theorem GA.forgot(h:GA w gr gpb mb out k1 k2 sp gp b1 b2 FG){p:Nat}(hp:p∈k1++k2){w1 w2:World}(hR:RR w1 gr out 3 (cH [k1,k2,sp] 2 p false) FG)(f1:Fr FG w w1)
  (hM:MpN prog 34 3 .u32 .i64 w2 mb (if(mOf (k1++k2) gp ((gp p:Nat):Int)).isSome then(k1++k2).length-1 else(k1++k2).length) (bX (mOf (k1++k2) gp) ((gp p:Nat):Int) none))(f2:Fr (λi=>i=mb) w1 w2):
  GA w2 gr gpb mb out (ac k1 p) (ac k2 p) (sp++[p]) gp (ac b1 (gp p)) (ac b2 (gp p)) FG/\Fr (FGm FG gpb mb) w w2:=by
 have hr:=h.rr.row3;have hnd:=h.ndk;have hps:¬p∈sp:=λq=>(List.mem_append.1 hp).elim (λq1=>hr.ls p q1 q) (λq1=>hr.ms p q1 q)
 rw[vB hr.toD3,ah hps]at hR;rw[bV hnd hp]at hM;have hnd12:(k1++k2).Nodup:=(List.nodup_append.2 ⟨hr.nl,hr.nm,λx hx y hy e=>hr.lm x hx (e▸hy)⟩);have ea:ac (k1++k2) p=ac k1 p++ac k2 p:=by unfold ac;exact List.filter_append ..
 have hlen:=dW hnd12 hp
 have e1:bX (mOf (k1++k2) gp) ((gp p:Nat):Int) none=mOf (ac (k1++k2) p) gp:=by
  refine ol ?_ ?_ ?_
  .rw[jg hnd hp];exact hnd.filter _
  .intro q hq
   have hq':q∈k1++k2/\¬q=p:=by
    have:=List.mem_filter.1 hq;exact⟨this.1,by simpa using this.2⟩
   have:¬((gp q:Nat):Int)=(gp p:Nat):=λe=>hq'.2 (ji hnd hq'.1 hp (by omega))
   rw[aE _ _ this];exact bV hnd hq'.1
  .intro z hz
   by_cases e:z=(gp p:Nat)
   .subst e;exact ba _ _ _
   .rw[aE _ _ e]
    unfold mOf;rw[Option.map_eq_none_iff,List.find?_eq_none];intro q hq e2;have e2:((gp q:Nat):Int)=z:=by simpa using e2
    refine hz q ?_ e2;have:¬q=p:=by rintro rfl;exact e e2.symm
    exact List.mem_filter.2 ⟨hq,by simpa using this⟩
 rw[e1,ea]at hM
 have hmap:∀l:List Nat,(∀x∈l,x∈k1++k2)->(ac l p).map gp=ac (l.map gp) (gp p):=by
  intro l hl;unfold ac;rw[List.filter_map]
  congr 1
  apply List.filter_congr;intro q hq;by_cases e:q=p
  .subst e;simp
  .have:¬gp q=gp p:=λe2=>e (ji hnd (hl q hq) hp e2)
   simp[e,this]
 have eb:ac b1 (gp p)++ac b2 (gp p)=ac (b1++b2) (gp p):=by unfold ac;exact(List.filter_append ..).symm
 refine⟨⟨hR.fr f2 (λi hi e=>h.d2 (e▸hi)),(h.pg.fr f1 h.d1).fr f2 h.d3,?_,?_,?_,?_,?_,λx hx=>h.lt x ?_,h.hn,h.d1,h.d2,h.d3⟩,(f1.mono (λi q=>.inl q)).trans f2 (λi q=>.inl (.inr (.inr q)))⟩
 .have:(k1++k2).length-1=(ac k1 p++ac k2 p).length:=by rw[<-ea];omega
  rw[<-this];exact hM
 .rw[hmap k1 (λx hx=>List.mem_append.2 (.inl hx)),<-h.h1]
 .rw[hmap k2 (λx hx=>List.mem_append.2 (.inr hx)),<-h.h2]
 .rw[eb];exact h.nd.filter _
 .have:=h.tl
  rw[ea]at hlen;simp only[List.length_append,List.length_cons,List.length_nil]at*;omega
 .rw[eb]at hx;exact(List.mem_filter.1 hx).1
theorem gP(h:GA w gr gpb mb out k1 k2 sp gp b1 b2 FG)(g:GH w b gr gpb mb out FG){p:Nat}(hp:p∈k1++k2):
  Calls prog 228 #[.pointer (some ⟨b,5,none⟩),.int .u32 (gp p:Nat)] w λe w'=>e=.returned (.bool true)/\GA w' gr gpb mb out (ac k1 p) (ac k2 p) (sp++[p]) gp (ac b1 (gp p)) (ac b2 (gp p)) FG/\Fr (FGm FG gpb mb) w w':=by
 have c7:=g.c7;have c5:=g.c5;have hr:=h.rr.row3;have hpn:p<out:=(List.mem_append.1 hp).elim (hr.bl p) (hr.bm p);have HM:=Hd h.mp;have HX:=Hd (bV h.ndk hp);have HW:=Hd (h.lt (gp p) (by rw[h.h1,h.h2,<-List.map_append];exact List.mem_map.2 ⟨p,hp,rfl⟩)).wf;have HB:=Hd (aI h.rr 2 p (by omega) hpn);have HG:=Hd g;have HD:=Hd h.d2;have KEY:=Hd (λw1 w2=>@GA.forgot w gr gpb mb out k1 k2 sp gp b1 b2 FG h p hp w1 w2);clear h g hr hp;generalize gp p=x at*;go_enter func228,ntmps228
 go_wp2_with(at_lookup;go_must(refine bB MIg HM.out HX.out rfl _ _ rfl (by rfl) (by rfl) HW.out ?_))
 refine HB.out.mono ?_;clear HB;rintro e w1⟨rfl,hR,f1⟩;have hg1:=HG.out.fr f1 HG.out.n1;have e7:=hg1.c7;have HM1:=Hd (HM.out.fr f1 HD.out);have HR:=Hd hR;have HF1:=Hd f1;clear hR f1 hg1 HM
 go_wp2_with(at_delete;go_must(refine uK MIg HM1.out rfl _ _ rfl (by rfl) (by rfl) HW.out ?_);intro w2 hm2 f2;have K:=Hd (KEY.out w1 w2 HR.out HF1.out hm2 f2);clear hm2 f2)
 go_returns;exact⟨rfl,K.out⟩
end
def bnd(most:Nat)(b1 b2:List Nat):List Nat×List Nat:=if most<b1.length+b2.length then(if b2.length<b1.length then(b1.drop 1,b2)else(b1,b2.drop 1))else(b1,b2)
section
variable{w w' w'':World}{b gr gpb mb out:Nat}{k1 k2 sp:List Nat}{gp:Nat->Nat}{b1 b2:List Nat}{FG:Nat->Prop}
theorem cQ.trans0(f:Fr NoF w w')(h:cQ w' gr gpb mb out b1 b2 FG w''):cQ w gr gpb mb out b1 b2 FG w'':=by
 obtain⟨k1,k2,sp,gp,h,f2⟩:=h;exact⟨k1,k2,sp,gp,h,(f.mono (λ_ q=>q.elim)).trans f2 (λ_ q=>.inl q)⟩
theorem cQ.refl(h:GA w gr gpb mb out k1 k2 sp gp b1 b2 FG)(d:Nat):cQ w gr gpb mb out b1 b2 FG (w.drewN d):=
 ⟨k1,k2,sp,gp,h.fr0 ((Fr.refl NoF w).drewN d),(Fr.refl (FGm FG gpb mb) w).drewN d⟩
theorem pX(h:GA w gr gpb mb out k1 k2 sp gp b1 b2 FG):(Calls prog 173 #[.pointer (some ⟨gr,0,none⟩),.int .i64 0] w λe w'=>e=.returned (.int .i64 (ixI k1.head?))/\∃d,w.drewN d=w')/\
  (Calls prog 173 #[.pointer (some ⟨gr,0,none⟩),.int .i64 1] w λe w'=>e=.returned (.int .i64 (ixI k2.head?))/\∃d,w.drewN d=w')/\
  Calls prog 173 #[.pointer (some ⟨gr,0,none⟩),.int .i64 2] w λe w'=>e=.returned (.int .i64 (ixI sp.head?))/\∃d,w.drewN d=w':=⟨bi h.rr 0,bi h.rr 1,bi h.rr 2⟩
theorem mL{l:List Nat}{x:Nat}(hn:(x::l).Nodup):ac (x::l) x=l:=by
 have e2:ac (x::l) x=ac l x:=by simp[ac]
 rw[e2,ah (List.nodup_cons.1 hn).1]
theorem zE{p:Nat}{l:List Nat}(h:GA w gr gpb mb out (p::l) k2 sp gp b1 b2 FG):ac b1 (gp p)=b1.drop 1/\ac b2 (gp p)=b2:=by
 have h1:b1=gp p::l.map gp:=h.h1;have hn:=h.nd;rw[h1]at hn⊢;have hn':=List.nodup_append.1 hn;exact⟨mL hn'.1,ah (λq=>hn'.2.2 (gp p) (List.mem_cons_self ..) (gp p) q rfl)⟩
theorem yI{p:Nat}{l:List Nat}(h:GA w gr gpb mb out k1 (p::l) sp gp b1 b2 FG):ac b1 (gp p)=b1/\ac b2 (gp p)=b2.drop 1:=by
 have h2:b2=gp p::l.map gp:=h.h2;have hn:=h.nd;rw[h2]at hn⊢;have hn':=List.nodup_append.1 hn;exact⟨ah (λq=>hn'.2.2 (gp p) q (gp p) (List.mem_cons_self ..) rfl),mL hn'.2.1⟩
theorem jd(h:GA w gr gpb mb out k1 k2 sp gp b1 b2 FG)(g:GH w b gr gpb mb out FG)(k:Int)(hF:Calls prog 173 #[.pointer (some ⟨gr,0,none⟩),.int .i64 k] w λe w'=>e=.returned (.int .i64 (-1))/\∃d,w.drewN d=w'):
  Calls prog 235 #[.pointer (some ⟨b,5,none⟩),.int .i64 k] w λe w'=>e=.returned (.tuple #[])/\cQ w gr gpb mb out b1 b2 FG w':=by
 have c5:=g.c5;have HF:=Hd hF;have HR:=Hd (λd=>cQ.refl h d);clear h g hF;go_enter func235,ntmps235
 go_wp2_with fail
 refine HF.out.mono ?_;clear HF;rintro e w1⟨rfl,d,rfl⟩;go_wp2;go_returns;exact⟨rfl,HR.out _⟩
theorem gQ(h:GA w gr gpb mb out k1 k2 sp gp b1 b2 FG)(g:GH w b gr gpb mb out FG)(k:Int){p:Nat}(hp:p∈k1++k2)(hF:Calls prog 173 #[.pointer (some ⟨gr,0,none⟩),.int .i64 k] w λe w'=>e=.returned (.int .i64 p)/\∃d,w.drewN d=w'):
  Calls prog 235 #[.pointer (some ⟨b,5,none⟩),.int .i64 k] w λe w'=>e=.returned (.tuple #[])/\cQ w gr gpb mb out (ac b1 (gp p)) (ac b2 (gp p)) FG w':=by
 have c5:=g.c5;have c6:=g.c6;have hr:=h.rr.row3;have hpn:p<out:=(List.mem_append.1 hp).elim (hr.bl p) (hr.bm p);have hn:=h.hn;have cp:w.cell? ⟨gpb,p,none⟩=some (.int .u32 (gp p:Nat)):=h.pg.cell hpn;have HF:=Hd hF
 have HY:Hid (∀d,Calls prog 228 #[.pointer (some ⟨b,5,none⟩),.int .u32 (gp p:Nat)] (w.drewN d) λe w'=>e=.returned (.bool true)/\cQ w gr gpb mb out (ac b1 (gp p)) (ac b2 (gp p)) FG w'):=by
  intro d;have f:Fr NoF w (w.drewN d):=(Fr.refl NoF w).drewN d;exact(gP (h.fr0 f) (g.fr f id) hp).mono λe w' ⟨he,h1,h2⟩=>⟨he,cQ.trans0 f ⟨_,_,_,_,h1,h2⟩⟩
 clear h g hF hr hp;generalize gp p=x at*;go_enter func235,ntmps235
 go_wp2_with fail
 refine HF.out.mono ?_;clear HF;rintro e w1⟨rfl,d,rfl⟩
 go_wp2_with fail
 refine(HY.out d).mono ?_;rintro e w2⟨rfl,h2⟩;have H2:=Hd h2;clear h2 HY;go_wp2;go_returns;exact⟨rfl,H2.out⟩
theorem gD(h:GA w gr gpb mb out k1 k2 sp gp b1 b2 FG)(g:GH w b gr gpb mb out FG):
  (Calls prog 235 #[.pointer (some ⟨b,5,none⟩),.int .i64 0] w λe w'=>e=.returned (.tuple #[])/\cQ w gr gpb mb out (b1.drop 1) b2 FG w')/\
  Calls prog 235 #[.pointer (some ⟨b,5,none⟩),.int .i64 1] w λe w'=>e=.returned (.tuple #[])/\cQ w gr gpb mb out b1 (b2.drop 1) FG w':=by
 have hf:=pX h;constructor
 .cases k1 with
  |nil=>
   have e:b1=[]:=h.h1;rw[show b1.drop 1=b1 from by rw[e];rfl];exact jd h g 0 hf.1
  |cons p l=>
   obtain⟨e1,e2⟩:=zE h;have:=gQ h g 0 (p:=p) (by simp) hf.1;rw[e1,e2]at this;exact this
 .cases k2 with
  |nil=>
   have e:b2=[]:=h.h2;rw[show b2.drop 1=b2 from by rw[e];rfl];exact jd h g 1 hf.2.1
  |cons p l=>
   obtain⟨e1,e2⟩:=yI h;have:=gQ h g 1 (p:=p) (by simp) hf.2.1;rw[e1,e2]at this;exact this
theorem GA.laid(h:GA w gr gpb mb out k1 k2 sp gp b1 b2 FG){p x:Nat}(hp:p∈sp)(hx:aK x)(hm:¬x∈b1++b2)(k:Nat)(hk:k<2){w1 w2:World}(hR:RR w1 gr out 3 (cH [k1,k2,sp] k p false) FG)(f1:Fr FG w w1)
  (hM:MpN prog 34 3 .u32 .i64 w2 mb (if(mOf (k1++k2) gp (x:Int)).isSome then(k1++k2).length else(k1++k2).length+1) (bX (mOf (k1++k2) gp) (x:Int) (some (p:Int))))(f2:Fr (λi=>i=mb) (w1.setCell ⟨gpb,p,none⟩ (.int .u32 (x:Nat))) w2):
  cQ w gr gpb mb out (if k=0 then b1++[x]else b1) (if k=0 then b2 else b2++[x]) FG w2:=by
 have hr:=h.rr.row3;have hnk:=h.ndk;have hp1:¬p∈k1:=λq=>hr.ls p q hp
 have hp2:¬p∈k2:=λq=>hr.ms p q hp
 have hp12:¬p∈k1++k2:=λq=>(List.mem_append.1 q).elim hp1 hp2
 rw[h.nope hm]at hM
 have hmap:∀l:List Nat,¬p∈l->l.map (upd gp p x)=l.map gp:=by
  intro l hl;apply List.map_congr_left;intro q hq;rw[aa];rintro rfl;exact hl hq
 have hx1:¬x∈b1:=λq=>hm (List.mem_append.2 (.inl q))
 have hx2:¬x∈b2:=λq=>hm (List.mem_append.2 (.inr q))
 have hn:=List.nodup_append.1 h.nd;have fs:Fr (λi=>i=gpb) w1 (w1.setCell ⟨gpb,p,none⟩ (.int .u32 (x:Nat))):=(Fr.refl (λi=>i=gpb) w1).setCell (p:=⟨gpb,p,none⟩) (.inl rfl) _
 have hpg:Blk w2 gpb out (uN (upd gp p x)):=by
  rw[<-lU];exact((h.pg.fr f1 h.d1).set _ _).fr f2 h.d3
 have hF:Fr (FGm FG gpb mb) w w2:=((f1.mono (λi q=>.inl q)).trans fs (λi q=>.inl (.inr (.inl q)))).trans f2 (λi q=>.inl (.inr (.inr q)));have hR2:=(hR.fr fs (λi hi e=>h.d1 (e▸hi))).fr f2 (λi hi e=>h.d2 (e▸hi));have hl:=dW hr.ns hp;have htl:=h.tl
 have hmp:∀l:List Nat,(l.map (upd gp p x)).Nodup->(∀q,q∈l↔q∈k1++k2\/q=p)->bX (mOf (k1++k2) gp) (x:Int) (some (p:Int))=mOf l (upd gp p x):=by
  intro l hln hlm;refine ol hln ?_ ?_
  .intro q hq
   rcases(hlm q).1 hq with hq1|rfl
   .have hqp:¬q=p:=λe=>hp12 (e▸hq1)
    rw[aa _ _ hqp];have:¬((gp q:Nat):Int)=(x:Int):=λe=>hm (by rw[h.h1,h.h2,<-List.map_append];exact List.mem_map.2 ⟨q,hq1,by omega⟩)
    rw[aE _ _ this];exact bV hnk hq1
   .rw[upd_same,ba]
  .intro z hz
   have hzx:¬z=(x:Int):=λe=>hz p ((hlm p).2 (.inr rfl)) (by rw[upd_same,e])
   rw[aE _ _ hzx];unfold mOf;rw[Option.map_eq_none_iff,List.find?_eq_none];intro q hq e2;have e2:((gp q:Nat):Int)=z:=by simpa using e2
   have hqp:¬q=p:=by rintro rfl;exact hp12 hq
   exact hz q ((hlm q).2 (.inl hq)) (by rw[aa _ _ hqp];exact e2)
 obtain rfl|rfl:k=0\/k=1:=by omega
 .rw[CL hr.toD3,ah hp1,ah hp2]at hR2
  rw[if_pos rfl,if_pos rfl];have e1:b1++[x]=(k1++[p]).map (upd gp p x):=by rw[List.map_append,hmap k1 hp1,<-h.h1];simp[upd_same]
  have e2:b2=k2.map (upd gp p x):=by rw[hmap k2 hp2];exact h.h2
  have hnd:((b1++[x])++b2).Nodup:=by
   rw[List.nodup_append];refine⟨?_,hn.2.1,λy hy z hz e=>?_⟩
   .rw[List.nodup_append]
    refine⟨hn.1,by simp,λy hy z hz e=>?_⟩;rw[List.mem_singleton.1 hz]at e;exact hx1 (e▸hy)
   .rcases List.mem_append.1 hy with q|q
    .exact hn.2.2 y q z hz e
    .rw[List.mem_singleton.1 q]at e;exact hx2 (e▸hz)
  have hmm:=hmp ((k1++[p])++k2) (by rw[List.map_append,<-e1,<-e2];exact hnd) (λq=>by simp only[List.mem_append,List.mem_singleton];exact⟨λh=>h.elim (λh=>h.elim (λh=>.inl (.inl h)) .inr) (λh=>.inl (.inr h)),λh=>h.elim (λh=>h.elim (λh=>.inl (.inl h)) .inr) (λh=>.inl (.inr h))⟩);rw[hmm]at hM;refine⟨k1++[p],k2,ac sp p,upd gp p x,⟨hR2,hpg,?_,e1,e2,hnd,?_,λy hy=>?_,h.hn,h.d1,h.d2,h.d3⟩,hF⟩
  .have:(k1++[p]++k2).length=(k1++k2).length+1:=by simp;omega
   rw[this];exact hM
  .rw[List.length_append];simp;omega
  .rcases List.mem_append.1 hy with q|q
   .rcases List.mem_append.1 q with q|q
    .exact h.lt y (List.mem_append.2 (.inl q))
    .rw[List.mem_singleton.1 q];exact hx
   .exact h.lt y (List.mem_append.2 (.inr q))
 .rw[C0 hr.toD3,ah hp1,ah hp2]at hR2
  rw[if_neg (by omega),if_neg (by omega)];have e1:b1=k1.map (upd gp p x):=by rw[hmap k1 hp1];exact h.h1
  have e2:b2++[x]=(k2++[p]).map (upd gp p x):=by rw[List.map_append,hmap k2 hp2,<-h.h2];simp[upd_same]
  have hnd:(b1++(b2++[x])).Nodup:=by
   rw[List.nodup_append];refine⟨hn.1,?_,λy hy z hz e=>?_⟩
   .rw[List.nodup_append]
    refine⟨hn.2.1,by simp,λy hy z hz e=>?_⟩;rw[List.mem_singleton.1 hz]at e;exact hx2 (e▸hy)
   .rcases List.mem_append.1 hz with q|q
    .exact hn.2.2 y hy z q e
    .rw[List.mem_singleton.1 q]at e;exact hx1 (e▸hy)
  have hmm:=hmp (k1++(k2++[p])) (by rw[List.map_append,<-e1,<-e2];exact hnd) (λq=>by simp only[List.mem_append,List.mem_singleton];exact⟨λh=>h.elim (λh=>.inl (.inl h)) (λh=>h.elim (λh=>.inl (.inr h)) .inr),λh=>h.elim (λh=>h.elim .inl (λh=>.inr (.inl h))) (λh=>.inr (.inr h))⟩);rw[hmm]at hM;refine⟨k1,k2++[p],ac sp p,upd gp p x,⟨hR2,hpg,?_,e1,e2,hnd,?_,λy hy=>?_,h.hn,h.d1,h.d2,h.d3⟩,hF⟩
  .have:(k1++(k2++[p])).length=(k1++k2).length+1:=by simp;omega
   rw[this];exact hM
  .rw[List.length_append];simp;omega
  .rcases List.mem_append.1 hy with q|q
   .exact h.lt y (List.mem_append.2 (.inl q))
   .rcases List.mem_append.1 q with q|q
    .exact h.lt y (List.mem_append.2 (.inr q))
    .rw[List.mem_singleton.1 q];exact hx
theorem pJ(h:GA w gr gpb mb out k1 k2 sp gp b1 b2 FG)(g:GH w b gr gpb mb out FG){x:Nat}(hx:aK x)(hm:¬x∈b1++b2)(k:Nat)(hk:k<2)(hs:b1.length+b2.length<out):
  Calls prog 232 #[.pointer (some ⟨b,5,none⟩),.int .i64 k,.int .u32 x] w λe w'=>e=.returned (.tuple #[])/\cQ w gr gpb mb out (if k=0 then b1++[x]else b1) (if k=0 then b2 else b2++[x]) FG w':=by
 have c5:=g.c5;have hlen:=h.len;have htl:=h.tl
 obtain⟨p,sp,rfl⟩:∃p l,sp=p::l:=by
  cases sp with
  |nil=>simp at htl;omega
  |cons p l=>exact⟨p,l,rfl⟩
 have hr:=h.rr.row3;have hp:p<out:=hr.bs p (List.mem_cons_self ..);have hn:=h.hn;have HF:=(pX h).2.2;simp only[List.head?_cons,ixI]at HF
 replace HF:=Hd HF
 have HFO:=Hd (im h g hx hm)
 have HB:Hid (∀d,Calls prog 74 #[.pointer (some ⟨gr,0,none⟩),.int .i64 k,.int .i64 p] (w.drewN d) λe w'=>e=.returned (.bool true)/\RR w' gr out 3 (cH [k1,k2,p::sp] k p false) FG/\Fr FG w w'):=by
  intro d;have f:Fr NoF w (w.drewN d):=(Fr.refl NoF w).drewN d;exact(aI (h.rr.fr f (λ_ _ q=>q)) k p (by omega) hp).mono λe w' ⟨he,h1,h2⟩=>⟨he,h1,(f.mono (λ_ q=>q.elim)).trans h2 (λ_ q=>.inl q)⟩
 have HH:=Hd h;have HG:=Hd g;have HW:=Hd hx.wf;have KEY:=Hd (λw1 w2=>@GA.laid w gr gpb mb out k1 k2 (p::sp) gp b1 b2 FG h p x (List.mem_cons_self ..) hx hm k hk w1 w2);have hcn:(k1++k2).length<1000000:=by rw[List.length_append];omega
 clear h g hx hm hr;generalize(if k=0 then b1++[x]else b1)=c1 at*;generalize(if k=0 then b2 else b2++[x])=c2 at*;go_enter func232,ntmps232
 go_wp2_with fail
 refine HFO.out.mono ?_;clear HFO;rintro e w1⟨rfl,rfl⟩
 go_wp2_with fail
 refine HF.out.mono ?_;clear HF;rintro e w1⟨rfl,d,rfl⟩
 go_wp2_with fail
 refine(HB.out d).mono ?_;clear HB;rintro e w2⟨rfl,hR,f1⟩;have hg2:=HG.out.fr f1 HG.out.n1;have e6:=hg2.c6;have e7:=hg2.c7;have lb:=hg2.lb;have n2:=hg2.n2;have hpg:=HH.out.pg.fr f1 HH.out.d1;have cp:w2.cell? ⟨gpb,p,none⟩=some (.int .u32 (gp p:Nat)):=hpg.cell hp;have fp:=hpg.frozen p;have lg:=hpg.lt;have HM2:Hid (MpN prog 34 3 .u32 .i64 (w2.setCell ⟨gpb,p,none⟩ (.int .u32 x)) mb (k1++k2).length (mOf (k1++k2) gp)):=(HH.out.mp.fr f1 HH.out.d2).fr ((Fr.refl (λi=>i=gpb) w2).setCell (p:=⟨gpb,p,none⟩) (.inl rfl) _) (λe=>HH.out.d3 e.symm);have HR:=Hd hR;have HF1:=Hd f1;have HWp:Hid ((Lit.int .i64 (p:Int)).wf=true):=WalkArith.wf_i64 ⟨by omega,by omega⟩;have HCN:=Hd hcn;generalize gp p=z at cp;clear hR f1 hg2 hpg hlen htl hcn
 go_wp2_with(at_mapUpdate;go_must(refine o3 MIg HM2.out HCN.out rfl _ _ _ rfl (by rfl) (by rfl) (by rfl) HW.out HWp.out ?_);intro w3 hm3 f3;have K:=Hd (KEY.out w2 w3 HR.out HF1.out hm3 f3);clear hm3 f3)
 go_returns;exact⟨rfl,K.out⟩
theorem lx{most:Nat}{b1 b2:List Nat}(h:¬most<b1.length+b2.length):bnd most b1 b2=(b1,b2):=by unfold bnd;rw[if_neg h]
theorem BX{most:Nat}{b1 b2:List Nat}(h:b1.length+b2.length<=most+1):(bnd most b1 b2).1.length+(bnd most b1 b2).2.length<=most:=by
 unfold bnd
 split
 .split
  .simp only[List.length_drop];omega
  .simp only[List.length_drop];omega
 .simp only;omega
theorem qy(h:GA w gr gpb mb out k1 k2 sp gp b1 b2 FG)(g:GH w b gr gpb mb out FG)(most:Nat)(hm:most<=65535)(hl:b1.length+b2.length<=most+1):
  Calls prog 233 #[.pointer (some ⟨b,5,none⟩),.int .i64 most] w λe w'=>e=.returned (.tuple #[])/\cQ w gr gpb mb out (bnd most b1 b2).1 (bnd most b1 b2).2 FG w':=by
 have HG:=Hd g;have HR:=Hd (cQ.refl h 0);have HL:=Hd hl;clear h g hl;go_enter func233,ntmps233;go_wp2
 go_loopg [] (b1.length+b2.length) (λg wr=>∃c1 c2,g=c1.length+c2.length/\c1.length+c2.length<=most+1/\bnd most c1 c2=bnd most b1 b2/\cQ w gr gpb mb out c1 c2 FG wr)
 case atStart=>exact⟨b1,b2,rfl,HL.out,rfl,HR.out⟩
 case round=>
  obtain⟨c1,c2,rfl,hcl,hb,hr⟩:=hrel;obtain⟨j1,j2,js,jp,hga,hf⟩:=hr
  have hgh:=HG.out.fr hf (λq=>by
   rcases q with q|q|q
   .exact HG.out.n1 q
   .exact HG.out.n2 q
   .exact HG.out.n3 q)
  have HL0:=Hd (j9 hga hgh);have HL1:=Hd (kg hga hgh)
  have HE0:Hid (Calls prog 235 #[.pointer (some ⟨b,5,none⟩),.int .i64 0] wr λe w'=>e=.returned (.tuple #[])/\cQ w gr gpb mb out (c1.drop 1) c2 FG w'):=
   (gD hga hgh).1.mono λe w' ⟨he,q1,q2,qs,qp,h1,h2⟩=>⟨he,q1,q2,qs,qp,h1,hf.trans h2 (λ_ q=>.inl q)⟩
  have HE1:Hid (Calls prog 235 #[.pointer (some ⟨b,5,none⟩),.int .i64 1] wr λe w'=>e=.returned (.tuple #[])/\cQ w gr gpb mb out c1 (c2.drop 1) FG w'):=
   (gD hga hgh).2.mono λe w' ⟨he,q1,q2,qs,qp,h1,h2⟩=>⟨he,q1,q2,qs,qp,h1,hf.trans h2 (λ_ q=>.inl q)⟩
  have HB:=Hd hb;have HK:Hid (cQ w gr gpb mb out c1 c2 FG wr):=⟨_,_,_,_,hga,hf⟩;clear hga hf hgh hb;by_cases h1:most<c1.length+c2.length
  .by_cases h2:c2.length<c1.length
   .have D1:Hid (bnd most (c1.drop 1) (c2)=bnd most b1 b2):=by
     unfold Hid;rw[lx (by rw[List.length_drop];omega),<-HB.out];unfold bnd;rw[if_pos h1,if_pos h2]
    have D2:Hid ((c1.drop 1).length+(c2).length<c1.length+c2.length/\(c1.drop 1).length+(c2).length<=most+1):=by unfold Hid;rw[List.length_drop];omega
    have hc0:c1.length<=65536:=by omega
    have hc1:c2.length<=65536:=by omega
    go_wp2_with(first
     |(go_at_call 234;(with_reducible refine HL0.out.mono ?_);rintro e w'⟨rfl,rfl⟩)
     |(go_at_call 234;(with_reducible refine HL1.out.mono ?_);rintro e w'⟨rfl,rfl⟩))
    refine HE0.out.mono ?_;rintro e w2⟨rfl,h3⟩;have H3:=Hd h3;clear h3 HL0 HL1 HE0 HE1;go_wp2
    go_roundg ((c1.drop 1).length+(c2).length)
    case measure=>exact D2.out.1
    case rel=>exact⟨c1.drop 1,c2,rfl,D2.out.2,D1.out,H3.out⟩
   .have D1:Hid (bnd most (c1) (c2.drop 1)=bnd most b1 b2):=by
     unfold Hid;rw[lx (by rw[List.length_drop];omega),<-HB.out];unfold bnd;rw[if_pos h1,if_neg h2]
    have D2:Hid ((c1).length+(c2.drop 1).length<c1.length+c2.length/\(c1).length+(c2.drop 1).length<=most+1):=by unfold Hid;rw[List.length_drop];omega
    have hc0:c1.length<=65536:=by omega
    have hc1:c2.length<=65536:=by omega
    go_wp2_with(first
     |(go_at_call 234;(with_reducible refine HL0.out.mono ?_);rintro e w'⟨rfl,rfl⟩)
     |(go_at_call 234;(with_reducible refine HL1.out.mono ?_);rintro e w'⟨rfl,rfl⟩))
    refine HE1.out.mono ?_;rintro e w2⟨rfl,h3⟩;have H3:=Hd h3;clear h3 HL0 HL1 HE0 HE1;go_wp2
    go_roundg ((c1).length+(c2.drop 1).length)
    case measure=>exact D2.out.1
    case rel=>exact⟨c1,c2.drop 1,rfl,D2.out.2,D1.out,H3.out⟩
  .have D1:Hid ((bnd most b1 b2).1=c1/\(bnd most b1 b2).2=c2):=by
    rw[<-HB.out,lx h1];exact⟨rfl,rfl⟩
   have hc0:c1.length<=65536:=by omega
   have hc1:c2.length<=65536:=by omega
   go_wp2_with(first
    |(go_at_call 234;(with_reducible refine HL0.out.mono ?_);rintro e w'⟨rfl,rfl⟩)
    |(go_at_call 234;(with_reducible refine HL1.out.mono ?_);rintro e w'⟨rfl,rfl⟩))
   go_returns;refine⟨rfl,?_⟩;rw[D1.out.1,D1.out.2];exact HK.out
end
structure T7 where
 nw:List Nat
 mn:List Nat
 page:Nat->Nat
 ev:Nat->Bool
 b1:List Nat
 b2:List Nat
 goal:Nat
theorem Ac(A:TA)(n g out s z:Nat):upd (twH A n g out s) 0 (.int .i64 z)=twH A n z out s:=by
 funext j
 match j with
 |0=>rfl
 |1=>rfl
 |2=>rfl
 |3=>rfl
 |4=>rfl
 |5=>rfl
 |6=>rfl
 |7=>rfl
 |j+8=>simp[upd,twH]
structure AC(w:World)(b n:Nat)(A:TA)(t:T7)(k1 k2 sp:List Nat)(gp:Nat->Nat):Prop where
 hd:Blk w b 8 (twH A n t.goal (n+1) (cntL (t.nw++t.mn) t.ev))
 rr:RR w A.rb n 2 [t.nw,t.mn] A.FR
 pg:Blk w A.pb n (uN t.page)
 be:Blk w A.eb n (bF t.ev)
 gg:GA w A.gr A.gpb A.mb (n+1) k1 k2 sp gp t.b1 t.b2 A.FG
 lb:TL b A
 ou:∀f,t.ev f=true->f∈t.nw\/f∈t.mn
 hn:n<=65535
 hi:t.goal<=n
 hb:t.b1.length+t.b2.length<=n
section
variable{w w':World}{b n:Nat}{A:TA}{t:T7}{k1 k2 sp:List Nat}{gp:Nat->Nat}
theorem AC.fr(h:AC w b n A t k1 k2 sp gp){G:Nat->Prop}(f:Fr G w w')(hG:∀i,FT A b i->¬G i):AC w' b n A t k1 k2 sp gp:=
 ⟨h.hd.fr f (hG _ (.inl rfl)),h.rr.fr f (λi q=>hG i (.inr (.inr (.inr (.inl q))))),h.pg.fr f (hG _ (.inr (.inl rfl))),h.be.fr f (hG _ (.inr (.inr (.inl rfl)))),h.gg.fr f (λi q=>hG i (.inr (.inr (.inr (.inr (.inl q)))))) (hG _ (.inr (.inr (.inr (.inr (.inr (.inl rfl))))))) (hG _ (.inr (.inr (.inr (.inr (.inr (.inr rfl))))))),h.lb,h.ou,h.hn,h.hi,h.hb⟩
theorem AC.fr0(h:AC w b n A t k1 k2 sp gp)(f:Fr NoF w w'):AC w' b n A t k1 k2 sp gp:=h.fr f (λ_ _ q=>q)
theorem AC.lt(h:AC w b n A t k1 k2 sp gp):∀i,FT A b i->i<w.heap.size:=by
 rintro i(rfl|rfl|rfl|q|q|rfl|rfl)
 .exact h.hd.lt
 .exact h.pg.lt
 .exact h.be.lt
 .exact h.rr.lt i q
 .exact h.gg.rr.lt i q
 .exact h.gg.pg.lt
 .exact h.gg.mp.lt
theorem AC.c(h:AC w b n A t k1 k2 sp gp)(i:Nat)(hi:i<8):w.cell? ⟨b,i,none⟩=some (twH A n t.goal (n+1) (cntL (t.nw++t.mn) t.ev) i):=h.hd.cell hi
theorem AC.cp(h:AC w b n A t k1 k2 sp gp){f:Nat}(hf:f<n):w.cell? ⟨A.pb,f,none⟩=some (.int .u32 (t.page f:Nat)):=h.pg.cell hf
theorem AC.ce(h:AC w b n A t k1 k2 sp gp){f:Nat}(hf:f<n):w.cell? ⟨A.eb,f,none⟩=some (.bool (t.ev f)):=h.be.cell hf
theorem AC.gH(h:AC w b n A t k1 k2 sp gp):GH w b A.gr A.gpb A.mb (n+1) A.FG:=by
 refine⟨h.c 5 (by omega),h.c 6 (by omega),h.c 7 (by omega),h.hd.lt,λq=>?_,λq=>?_,λq=>?_⟩
 .have:=h.lb.l4 _ q;rw[h.lb.l0]at this;cases this
 .have:=h.lb.l5;rw[<-q,h.lb.l0]at this;cases this
 .have:=h.lb.l6;rw[<-q,h.lb.l0]at this;cases this
theorem AC.lists(h:AC w b n A t k1 k2 sp gp):(t.nw++t.mn).Nodup/\(∀x∈t.nw,x<n)/\(∀x∈t.mn,x<n)/\(∀x∈t.nw,¬x∈t.mn)/\(t.nw++t.mn).length<=n:=by
 obtain⟨h1,h2,h3,h4,h5⟩:=h.rr.row2
 have hnd:(t.nw++t.mn).Nodup:=by
  rw[List.nodup_append];exact⟨h1,h2,λx hx y hy e=>h5 x hx (e▸hy)⟩
 refine⟨hnd,h3,h4,h5,?_⟩;have:=List.Nodup.length_le_of_subset (l₁:=t.nw++t.mn) (l₂:=List.range n) hnd (λy hy=>List.mem_range.2 ((List.mem_append.1 hy).elim (h3 y) (h4 y)));simpa using this
theorem uF(h:AC w b n A t k1 k2 sp gp):Calls prog 224 #[.pointer (some ⟨b,0,none⟩)] w λe w'=>e=.returned (.int .i64 (cntL (t.nw++t.mn) t.ev:Nat))/\w=w':=by
 have c4:w.cell? ⟨b,4,none⟩=some (.int .i64 (cntL (t.nw++t.mn) t.ev:Nat)):=h.c 4 (by omega);clear h;go_enter func224,ntmps224;go_wp2;go_returns;exact⟨rfl,rfl⟩
theorem kT(h:AC w b n A t k1 k2 sp gp)(f:Nat):Calls prog 227 #[.pointer (some ⟨b,0,none⟩),.int .i64 f] w λe w'=>e=.returned (.bool (decide (f∈t.nw\/f∈t.mn)))/\w=w':=by
 have c1:w.cell? ⟨b,1,none⟩=some (.pointer (some ⟨A.rb,0,none⟩)):=h.c 1 (by omega);have HI:=fj h.rr f;rw[ix2]at HI;by_cases hm:f∈t.nw
 .rw[if_pos hm]at HI
  have H:=Hd HI;have HD:Hid (decide (f∈t.nw\/f∈t.mn)=true):=by simp[Hid,hm]
  rw[HD.out];clear HI hm HD h;go_enter func227,ntmps227
  go_wp2_with(go_at_call 112;refine H.out.mono ?_;rintro e w'⟨rfl,rfl⟩)
  go_returns;exact⟨rfl,rfl⟩
 .rw[if_neg hm]at HI
  by_cases hm2:f∈t.mn
  .rw[if_pos hm2]at HI
   have H:=Hd HI;have HD:Hid (decide (f∈t.nw\/f∈t.mn)=true):=by simp[Hid,hm2]
   rw[HD.out];clear HI hm HD h hm2;go_enter func227,ntmps227
   go_wp2_with(go_at_call 112;refine H.out.mono ?_;rintro e w'⟨rfl,rfl⟩)
   go_returns;exact⟨rfl,rfl⟩
  .rw[if_neg hm2]at HI
   have H:=Hd HI;have HD:Hid (decide (f∈t.nw\/f∈t.mn)=false):=by simp[Hid,hm,hm2]
   rw[HD.out];clear HI hm HD h hm2;go_enter func227,ntmps227
   go_wp2_with(go_at_call 112;refine H.out.mono ?_;rintro e w'⟨rfl,rfl⟩)
   go_returns;exact⟨rfl,rfl⟩
def T7.setE(t:T7)(f:Nat)(v:Bool):T7:=if f∈t.nw\/f∈t.mn then⟨t.nw,t.mn,t.page,upd t.ev f v,t.b1,t.b2,t.goal⟩else t
theorem AC.setE(h:AC w b n A t k1 k2 sp gp){f:Nat}(hm:f∈t.nw\/f∈t.mn)(v:Bool){z:Nat}(hz:z=cntL (t.nw++t.mn) (upd t.ev f v)):
  AC ((w.setCell ⟨A.eb,f,none⟩ (.bool v)).setCell ⟨b,4,none⟩ (.int .i64 z)) b n A ⟨t.nw,t.mn,t.page,upd t.ev f v,t.b1,t.b2,t.goal⟩ k1 k2 sp gp:=by
 subst hz;obtain⟨n1,n2,n3,n4,n5,n6,n7,n8,n9,n10⟩:=h.lb.ne
 have f1:Fr (λi=>i=A.eb\/i=b) w ((w.setCell ⟨A.eb,f,none⟩ (.bool v)).setCell ⟨b,4,none⟩ (.int .i64 (cntL (t.nw++t.mn) (upd t.ev f v):Nat))):=
  ((Fr.refl (λi=>i=A.eb\/i=b) w).setCell (p:=⟨A.eb,f,none⟩) (.inl (.inl rfl)) _).setCell (p:=⟨b,4,none⟩) (.inl (.inr rfl)) _
 refine⟨?_,h.rr.fr f1 (λi hi q=>?_),h.pg.fr f1 (λq=>?_),?_,h.gg.fr f1 (λi hi q=>?_) (λq=>?_) (λq=>?_),h.lb,λg hg=>?_,h.hn,h.hi,h.hb⟩
 .rw[<-zm A n t.goal (n+1) (cntL (t.nw++t.mn) t.ev)]
  exact(h.hd.other n2 _).set _ _
 .rcases q with rfl|rfl
  .exact n6 hi
  .exact n4 hi
 .rcases q with q|q
  .exact n3 q
  .exact n1 q.symm
 .rw[<-sS]
  exact(h.be.set _ _).other (λe=>n2 e.symm) _
 .rcases q with rfl|rfl
  .exact n9 (.inl hi)
  .exact n7 (.inl hi)
 .rcases q with q|q
  .exact n9 (.inr (.inl q.symm))
  .exact n7 (.inr (.inl q.symm))
 .rcases q with q|q
  .exact n9 (.inr (.inr q.symm))
  .exact n7 (.inr (.inr q.symm))
 .by_cases e:g=f
  .rw[e];exact hm
  .have hg:upd t.ev f v g=true:=hg
   rw[aa _ _ e]at hg;exact h.ou g hg
theorem AA(h:AC w b n A t k1 k2 sp gp)(f:Nat)(hf:f<n)(v:Bool):
  Calls prog 223 #[.pointer (some ⟨b,0,none⟩),.int .i64 f,.bool v] w λe w'=>e=.returned (.tuple #[])/\AC w' b n A (t.setE f v) k1 k2 sp gp/\Fr (λi=>i=A.eb\/i=b) w w':=by
 have HH:=kT h f;have hn:=h.hn;have hcl:=ju (t.nw++t.mn) t.ev;obtain⟨hnd,_,_,_,hln⟩:=h.lists;by_cases hm:f∈t.nw\/f∈t.mn
 .have c3:w.cell? ⟨b,3,none⟩=some (.slice (some ⟨A.eb,0,none⟩) n n):=h.c 3 (by omega)
  have c4:w.cell? ⟨b,4,none⟩=some (.int .i64 (cntL (t.nw++t.mn) t.ev:Nat)):=h.c 4 (by omega);have ce:=h.ce hf;have fe:∀i,w.frozen? ⟨A.eb,i,none⟩=false:=λi=>h.be.frozen i
  have fb:w.frozen? ⟨b,4,none⟩=false:=h.hd.frozen 4;have le:=h.be.lt;have lb:=h.hd.lt;have hd1:=h.lb.ne.2.1;have hd1':¬A.eb=b:=λe=>hd1 e.symm
  have hcu:=pm hnd t.ev f v (List.mem_append.2 hm);have HC:=Hd (λ(z:Nat) (hz:z=cntL (t.nw++t.mn) (upd t.ev f v))=>h.setE hm v hz);rw[show decide (f∈t.nw\/f∈t.mn)=true from by simp[hm]]at HH;have H:=Hd HH;have HS:Hid (t.setE f v=⟨t.nw,t.mn,t.page,upd t.ev f v,t.b1,t.b2,t.goal⟩):=by unfold Hid T7.setE;rw[if_pos hm]
  have HU:Hid (t.ev f=v->(⟨t.nw,t.mn,t.page,upd t.ev f v,t.b1,t.b2,t.goal⟩:T7)=t):=by
   intro e
   have:upd t.ev f v=t.ev:=by
    funext j;unfold upd;split
    .subst j;exact e.symm
    .rfl
   rw[this]
  have HLR:=Hd h
  have hfr:∀z,Fr (λi=>i=A.eb\/i=b) w ((w.setCell ⟨A.eb,f,none⟩ (.bool v)).setCell ⟨b,4,none⟩ (.int .i64 z)):=λz=>
   ((Fr.refl (λi=>i=A.eb\/i=b) w).setCell (p:=⟨A.eb,f,none⟩) (.inl (.inl rfl)) _).setCell (p:=⟨b,4,none⟩) (.inl (.inr rfl)) _
  have HFR:=Hd hfr;clear h HH hm hfr hnd;rw[HS.out];clear HS;generalize cntL (t.nw++t.mn) (upd t.ev f v)=z1 at*;generalize cntL (t.nw++t.mn) t.ev=z0 at*;generalize(t.nw++t.mn).length=zl at*;generalize hev:t.ev f=x at*;have HE:=Hd hev;clear hev
  cases x<;>cases v
  .have hu:=HU.out rfl
   rw[hu];clear hu HU hcu;go_enter func223,ntmps223
   go_wp2_with(go_at_call 227;refine H.out.mono ?_;rintro e w'⟨rfl,rfl⟩)
   go_returns;exact⟨rfl,HLR.out,Fr.refl _ _⟩
  .simp at hcu
   have HCU:=Hd hcu;clear hcu;go_enter func223,ntmps223
   go_wp2_with(go_at_call 227;refine H.out.mono ?_;rintro e w'⟨rfl,rfl⟩)
   go_returns;have e1:((z0:Int)+1)=((z0+1:Nat):Int):=by omega
   rw[e1];exact⟨rfl,HC.out _ (by have:=HCU.out;omega),HFR.out _⟩
  .simp at hcu
   have h1:1<=(z0:Int):=by omega
   have HCU:=Hd hcu;clear hcu;go_enter func223,ntmps223
   go_wp2_with(go_at_call 227;refine H.out.mono ?_;rintro e w'⟨rfl,rfl⟩)
   go_returns;have e1:((z0:Int)-1)=((z0-1:Nat):Int):=by omega
   rw[e1];exact⟨rfl,HC.out _ (by have:=HCU.out;omega),HFR.out _⟩
  .have hu:=HU.out rfl
   rw[hu];clear hu HU hcu;go_enter func223,ntmps223
   go_wp2_with(go_at_call 227;refine H.out.mono ?_;rintro e w'⟨rfl,rfl⟩)
   go_returns;exact⟨rfl,HLR.out,Fr.refl _ _⟩
 .rw[show decide (f∈t.nw\/f∈t.mn)=false from by simpa using hm]at HH
  have H:=Hd HH;rw[show t.setE f v=t from if_neg hm];have HLR:=Hd h;clear h HH hm hcl hln hnd;go_enter func223,ntmps223
  go_wp2_with(go_at_call 227;refine H.out.mono ?_;rintro e w'⟨rfl,rfl⟩)
  go_returns;exact⟨rfl,HLR.out,Fr.refl _ _⟩
def T7.rem(t:T7)(f:Nat):T7:=if f∈t.nw\/f∈t.mn then⟨ac t.nw f,ac t.mn f,t.page,upd t.ev f false,t.b1,t.b2,t.goal⟩else t
theorem mS(h:AC w b n A t k1 k2 sp gp)(f:Nat)(hf:f<n):
  Calls prog 222 #[.pointer (some ⟨b,0,none⟩),.int .i64 f] w λe w'=>e=.returned (.tuple #[])/\AC w' b n A (t.rem f) k1 k2 sp gp/\Fr (FT A b) w w':=by
 have HH:=kT h f;by_cases hm:f∈t.nw\/f∈t.mn
 .rw[show decide (f∈t.nw\/f∈t.mn)=true from by simp[hm]]at HH
  have H:=Hd HH;have HS:=Hd (AA h f hf false);have HM:=Hd hm;have HL:=Hd h.lists;clear HH hm h;go_enter func222,ntmps222
  go_wp2_with(go_at_call 227;refine H.out.mono ?_;rintro e w'⟨rfl,rfl⟩)
  refine HS.out.mono ?_;clear HS;rintro e w1⟨rfl,hc1,f1⟩;rw[show t.setE f false=⟨t.nw,t.mn,t.page,upd t.ev f false,t.b1,t.b2,t.goal⟩from if_pos HM.out]at hc1;have c1:w1.cell? ⟨b,1,none⟩=some (.pointer (some ⟨A.rb,0,none⟩)):=hc1.c 1 (by omega);have HO:=Hd (jX hc1.rr f);have HC1:=Hd hc1;have HF:=Hd f1;clear hc1 f1
  go_wp2_with fail
  refine HO.out.mono ?_;clear HO;rintro e w2⟨rfl,hR,f2⟩
  have key:AC w2 b n A (t.rem f) k1 k2 sp gp:=by
   have hc:=HC1.out;obtain⟨n1,n2,n3,n4,n5,n6,n7,n8,n9,n10⟩:=hc.lb.ne;obtain⟨hnd,h3,h4,h5,_⟩:=HL.out
   have hR':RR w2 A.rb n 2 [ac t.nw f,ac t.mn f] A.FR:=by
    have:lT [t.nw,t.mn] (f:Int)=[ac t.nw f,ac t.mn f]:=by rw[lT,if_pos (by omega)];exact mK h5 f
    rw[this]at hR;exact hR
   rw[show t.rem f=⟨ac t.nw f,ac t.mn f,t.page,upd t.ev f false,t.b1,t.b2,t.goal⟩from if_pos HM.out];refine⟨?_,hR',hc.pg.fr f2 n5,hc.be.fr f2 n6,hc.gg.fr f2 (λi hi q=>n10 i q (.inl hi)) (λq=>n10 _ q (.inr (.inl rfl))) (λq=>n10 _ q (.inr (.inr rfl))),hc.lb,λg hg=>?_,hc.hn,hc.hi,hc.hb⟩
   .have h1:=dU hnd (upd t.ev f false) f
    rw[if_neg (by rw[upd_same];simp)]at h1;have h2:aP (t.nw++t.mn) f=ac t.nw f++ac t.mn f:=by unfold aP ac;rw[List.filter_append]
    rw[h2]at h1
    show Blk w2 b 8 (twH A n t.goal (n+1) (cntL (ac t.nw f++ac t.mn f) (upd t.ev f false)))
    rw[show cntL (ac t.nw f++ac t.mn f) (upd t.ev f false)=cntL (t.nw++t.mn) (upd t.ev f false)from by omega];exact hc.hd.fr f2 n4
   .have hg':upd t.ev f false g=true:=hg
    have hgf:¬g=f:=by rintro rfl;rw[upd_same]at hg';cases hg'
    rcases hc.ou g hg with q|q
    .exact .inl (by simpa[ac]using⟨q,hgf⟩)
    .exact .inr (by simpa[ac]using⟨q,hgf⟩)
  have hfr:Fr (FT A b) w w2:=(HF.out.mono (λi q=>q.elim (λq=>.inr (.inr (.inl q))) (λq=>.inl q))).trans f2 (λi q=>.inl (.inr (.inr (.inr (.inl q)))));have KEY:=Hd (And.intro key hfr);clear hR f2 key hfr;go_wp2;go_returns;exact⟨rfl,KEY.out⟩
 .rw[show decide (f∈t.nw\/f∈t.mn)=false from by simpa using hm]at HH
  have H:=Hd HH;rw[show t.rem f=t from if_neg hm];have HLR:=Hd h;clear h HH hm;go_enter func222,ntmps222
  go_wp2_with(go_at_call 227;refine H.out.mono ?_;rintro e w'⟨rfl,rfl⟩)
  go_returns;exact⟨rfl,HLR.out,Fr.refl _ _⟩
end
end
end Go.Proofs.YtoenclhimbpfeaaGreatDoor
