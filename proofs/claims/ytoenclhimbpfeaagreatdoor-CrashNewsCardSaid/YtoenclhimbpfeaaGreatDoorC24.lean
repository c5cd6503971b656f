/- Part 24. -/
import Derived.Test.YtoenclhimbpfeaaGreatDoorC22
namespace Go.Proofs.YtoenclhimbpfeaaGreatDoor
set_option linter.all false
set_option maxHeartbeats 16000000
set_option maxRecDepth 100000
section
open Go.Maps Go.Proofs.Tryz Go.RowKit
structure D3(l m s:List Nat):Prop where
 lm:∀x∈l,¬x∈m
 ls:∀x∈l,¬x∈s
 ms:∀x∈m,¬x∈s
structure R3(n:Nat)(l m s:List Nat):Prop extends D3 l m s where
 nl:l.Nodup
 nm:m.Nodup
 ns:s.Nodup
 bl:∀x∈l,x<n
 bm:∀x∈m,x<n
 bs:∀x∈s,x<n
theorem RR.row3{w:World}{b n:Nat}{l m s:List Nat}{F:Nat->Prop}(h:RR w b n 3 [l,m,s] F):R3 n l m s:=by
 obtain⟨nb,lb,rw,nx,pv,ls,hc,hi,hF⟩:=h.ex;have m0:=hi.mem 0 l rfl;have m1:=hi.mem 1 m rfl;have m2:=hi.mem 2 s rfl;refine⟨⟨fun x hx hm=>?_,fun x hx hm=>?_,fun x hx hm=>?_⟩,hi.nd 0 l rfl,hi.nd 1 m rfl,hi.nd 2 s rfl,fun x hx=>(m0 x hx).1,fun x hx=>(m1 x hx).1,fun x hx=>(m2 x hx).1⟩
 .have h1:=(m0 x hx).2
  have h2:=(m1 x hm).2;omega
 .have h1:=(m0 x hx).2
  have h2:=(m2 x hm).2;omega
 .have h1:=(m1 x hx).2
  have h2:=(m2 x hm).2;omega
theorem rowIx3(l m s:List Nat)(x:Nat):rowIx [l,m,s] x=if x∈l then some 0 else if x∈m then some 1 else if x∈s then some 2 else none:=by
 by_cases h:x∈l
 .simp[rowIx,List.findIdx?_cons,h]
 .by_cases h2:x∈m
  .simp[rowIx,List.findIdx?_cons,h,h2]
  .by_cases h3:x∈s<;>simp[rowIx,List.findIdx?_cons,h,h2,h3]
theorem outL3{l m s:List Nat}(hd:D3 l m s)(x:Nat):outL [l,m,s] x=[awayN l x,awayN m x,awayN s x]:=by
 by_cases h:x∈l
 .rw[awayN_not (hd.lm x h),awayN_not (hd.ls x h)];simp[outL,rowIx3,h,awayN]
 .by_cases h2:x∈m
  .rw[awayN_not h,awayN_not (hd.ms x h2)];simp[outL,rowIx3,h,h2,awayN]
  .by_cases h3:x∈s
   .rw[awayN_not h,awayN_not h2];simp[outL,rowIx3,h,h2,h3,awayN]
   .rw[awayN_not h,awayN_not h2,awayN_not h3];simp[outL,rowIx3,h,h2,h3]
theorem putL3_0{l m s:List Nat}(hd:D3 l m s)(x:Nat):putL [l,m,s] 0 x false=[awayN l x++[x],awayN m x,awayN s x]:=by simp[putL,outL3 hd]
theorem putL3_1{l m s:List Nat}(hd:D3 l m s)(x:Nat):putL [l,m,s] 1 x false=[awayN l x,awayN m x++[x],awayN s x]:=by simp[putL,outL3 hd]
theorem putL3_2{l m s:List Nat}(hd:D3 l m s)(x:Nat):putL [l,m,s] 2 x false=[awayN l x,awayN m x,awayN s x++[x]]:=by simp[putL,outL3 hd]
theorem ix3(l m s:List Nat)(f:Nat):ixI (ixZ [l,m,s] (f:Int))=if f∈l then 0 else if f∈m then 1 else if f∈s then 2 else-1:=by
 rw[ixZ_nat,rowIx3]
 split
 .rfl
 .split
  .rfl
  .split<;>rfl
structure GA(w:World)(gr gpb mb out:Nat)(k1 k2 sp:List Nat)(gp:Nat->Nat)(b1 b2:List Nat)(FG:Nat->Prop):Prop where
 rr:RR w gr out 3 [k1,k2,sp] FG
 pg:Blk w gpb out (uN gp)
 mp:MpN prog 34 3 .u32 .i64 w mb (k1++k2).length (mOf (k1++k2) gp)
 h1:b1=k1.map gp
 h2:b2=k2.map gp
 nd:(b1++b2).Nodup
 tl:k1.length+k2.length+sp.length=out
 lt:∀x∈b1++b2,isU32 x
 hn:out<=65536
 d1:¬FG gpb
 d2:¬FG mb
 d3:¬gpb=mb
theorem GA.fr{w w':World}{gr gpb mb out:Nat}{k1 k2 sp:List Nat}{gp:Nat->Nat}{b1 b2:List Nat}{FG G:Nat->Prop}(h:GA w gr gpb mb out k1 k2 sp gp b1 b2 FG)(f:Fr G w w')(q1:∀i,FG i->¬G i)(q2:¬G gpb)(q3:¬G mb):GA w' gr gpb mb out k1 k2 sp gp b1 b2 FG:=
 ⟨h.rr.fr f q1,h.pg.fr f q2,h.mp.fr f q3,h.h1,h.h2,h.nd,h.tl,h.lt,h.hn,h.d1,h.d2,h.d3⟩
def sideN(b1 b2:List Nat)(x:Nat):Int:=if x∈b1 then 0 else if x∈b2 then 1 else-1
def RemA(w:World)(gr gpb mb out:Nat)(b1 b2:List Nat)(FG:Nat->Prop)(w':World):Prop:=∃k1 k2 sp gp,GA w' gr gpb mb out k1 k2 sp gp b1 b2 FG∧Fr (FGm FG gpb mb) w w'
section
variable{w w':World}{b gr gpb mb out:Nat}{k1 k2 sp:List Nat}{gp:Nat->Nat}{b1 b2:List Nat}{FG:Nat->Prop}
theorem GA.fr0(h:GA w gr gpb mb out k1 k2 sp gp b1 b2 FG)(f:Fr NoF w w'):GA w' gr gpb mb out k1 k2 sp gp b1 b2 FG:=h.fr f (fun _ _ q=>q) id id
theorem GA.ndk(h:GA w gr gpb mb out k1 k2 sp gp b1 b2 FG):((k1++k2).map gp).Nodup:=by rw[List.map_append,<-h.h1,<-h.h2];exact h.nd
theorem GA.len(h:GA w gr gpb mb out k1 k2 sp gp b1 b2 FG):b1.length=k1.length∧b2.length=k2.length:=by rw[h.h1,h.h2];simp
theorem GA.mem(h:GA w gr gpb mb out k1 k2 sp gp b1 b2 FG){x:Nat}(hx:x∈b1++b2):∃p,p∈k1++k2∧gp p=x:=by
 rw[h.h1,h.h2,<-List.map_append]at hx;obtain⟨p,hp,e⟩:=List.mem_map.1 hx;exact⟨p,hp,e⟩
theorem GA.nope(h:GA w gr gpb mb out k1 k2 sp gp b1 b2 FG){x:Nat}(hm:¬x∈b1++b2):mOf (k1++k2) gp (x:Int)=none:=by
 refine mOf_none ?_;rw[List.map_append,<-h.h1,<-h.h2];exact hm
theorem GA.side(h:GA w gr gpb mb out k1 k2 sp gp b1 b2 FG){p:Nat}(hp:p∈k1++k2):sideN b1 b2 (gp p)=if p∈k1 then 0 else if p∈k2 then 1 else if p∈sp then 2 else-1:=by
 have hn:=h.ndk;unfold sideN;by_cases h1:p∈k1
 .rw[if_pos h1,if_pos]
  rw[h.h1];exact List.mem_map.2 ⟨p,h1,rfl⟩
 .have h2:p∈k2:=(List.mem_append.1 hp).resolve_left h1
  rw[if_neg h1,if_pos h2,if_neg,if_pos]
  .rw[h.h2];exact List.mem_map.2 ⟨p,h2,rfl⟩
  .rw[h.h1]
   intro q;obtain⟨y,hy,e⟩:=List.mem_map.1 q;have:=gp_inj hn (List.mem_append.2 (.inl hy)) hp e;exact h1 (this▸hy)
theorem ga_len0(h:GA w gr gpb mb out k1 k2 sp gp b1 b2 FG)(g:GH w b gr gpb mb out FG):Calls prog 234 #[.pointer (some ⟨b,5,none⟩),.int .i64 0] w fun e w'=>e=.returned (.int .i64 (b1.length:Nat))∧w=w':=by
 have c5:=g.c5;have HL:=Len_all h.rr 0;rw[show rowZ [k1,k2,sp] 0=k1 from rfl,<-h.len.1]at HL;have HL:=Hd HL;clear h g;go_enter func234,ntmps234
 go_wp2_with(go_at_call 216;refine HL.out.mono ?_;rintro e w'⟨rfl,rfl⟩)
 go_returns;exact⟨rfl,rfl⟩
theorem ga_len1(h:GA w gr gpb mb out k1 k2 sp gp b1 b2 FG)(g:GH w b gr gpb mb out FG):Calls prog 234 #[.pointer (some ⟨b,5,none⟩),.int .i64 1] w fun e w'=>e=.returned (.int .i64 (b2.length:Nat))∧w=w':=by
 have c5:=g.c5;have HL:=Len_all h.rr 1;rw[show rowZ [k1,k2,sp] 1=k2 from rfl,<-h.len.2]at HL;have HL:=Hd HL;clear h g;go_enter func234,ntmps234
 go_wp2_with(go_at_call 216;refine HL.out.mono ?_;rintro e w'⟨rfl,rfl⟩)
 go_returns;exact⟨rfl,rfl⟩
theorem ga_side(h:GA w gr gpb mb out k1 k2 sp gp b1 b2 FG)(g:GH w b gr gpb mb out FG){x:Nat}(hx:isU32 x):
  Calls prog 229 #[.pointer (some ⟨b,5,none⟩),.int .u32 x] w fun e w'=>e=.returned (.int .i64 (sideN b1 b2 x))∧w=w':=by
 have c5:=g.c5;have c7:=g.c7;have HM:=Hd h.mp;have HW:=Hd hx.wf;by_cases hm:x∈b1++b2
 .obtain⟨p,hp,rfl⟩:=h.mem hm
  have HI:=In_all h.rr p;rw[ix3,<-h.side hp]at HI;have HI:=Hd HI;have HX:=Hd (mOf_some h.ndk hp);clear h g hx hm;generalize sideN b1 b2 (gp p)=z at*;generalize gp p=x at*;go_enter func229,ntmps229
  go_wp2_with(first
   |(at_lookup;go_must(refine wp_lookN_some MIg HM.out HX.out rfl _ _ rfl (by rfl) (by rfl) HW.out ?_))
   |(go_at_call 112;refine HI.out.mono ?_;rintro e w'⟨rfl,rfl⟩))
  go_returns;exact⟨rfl,rfl⟩
 .have HX:=Hd (h.nope hm)
  have HE:Hid (sideN b1 b2 x= -1):=by
   have h1:¬x∈b1:=fun q=>hm (List.mem_append.2 (.inl q))
   have h2:¬x∈b2:=fun q=>hm (List.mem_append.2 (.inr q))
   unfold Hid sideN;rw[if_neg h1,if_neg h2]
  rw[HE.out];clear h g hx hm HE;go_enter func229,ntmps229
  go_wp2_with(at_lookup;go_must(refine wp_lookN_none MIg HM.out HX.out rfl _ _ rfl (by rfl) (by rfl) HW.out ?_))
  go_returns;exact⟨rfl,rfl⟩
theorem ga_forget_no(h:GA w gr gpb mb out k1 k2 sp gp b1 b2 FG)(g:GH w b gr gpb mb out FG){x:Nat}(hx:isU32 x)(hm:¬x∈b1++b2):
  Calls prog 228 #[.pointer (some ⟨b,5,none⟩),.int .u32 x] w fun e w'=>e=.returned (.bool false)∧w=w':=by
 have c7:=g.c7;have HM:=Hd h.mp;have HX:=Hd (h.nope hm);have HW:=Hd hx.wf;clear h g hx hm;go_enter func228,ntmps228
 go_wp2_with(at_lookup;go_must(refine wp_lookN_none MIg HM.out HX.out rfl _ _ rfl (by rfl) (by rfl) HW.out ?_))
 go_returns;exact⟨rfl,rfl⟩
theorem GA.forgot(h:GA w gr gpb mb out k1 k2 sp gp b1 b2 FG){p:Nat}(hp:p∈k1++k2){w1 w2:World}(hR:RR w1 gr out 3 (putL [k1,k2,sp] 2 p false) FG)(f1:Fr FG w w1)
  (hM:MpN prog 34 3 .u32 .i64 w2 mb (if(mOf (k1++k2) gp ((gp p:Nat):Int)).isSome then(k1++k2).length-1 else(k1++k2).length) (updI (mOf (k1++k2) gp) ((gp p:Nat):Int) none))(f2:Fr (fun i=>i=mb) w1 w2):
  GA w2 gr gpb mb out (awayN k1 p) (awayN k2 p) (sp++[p]) gp (awayN b1 (gp p)) (awayN b2 (gp p)) FG∧Fr (FGm FG gpb mb) w w2:=by
 have hr:=h.rr.row3;have hnd:=h.ndk;have hps:¬p∈sp:=fun q=>(List.mem_append.1 hp).elim (fun q1=>hr.ls p q1 q) (fun q1=>hr.ms p q1 q)
 rw[putL3_2 hr.toD3,awayN_not hps]at hR;rw[mOf_some hnd hp]at hM;have hnd12:(k1++k2).Nodup:=(List.nodup_append.2 ⟨hr.nl,hr.nm,fun x hx y hy e=>hr.lm x hx (e▸hy)⟩);have ea:awayN (k1++k2) p=awayN k1 p++awayN k2 p:=by unfold awayN;exact List.filter_append ..
 have hlen:=awayN_len hnd12 hp
 have e1:updI (mOf (k1++k2) gp) ((gp p:Nat):Int) none=mOf (awayN (k1++k2) p) gp:=by
  refine mOf_eq ?_ ?_ ?_
  .rw[map_awayN hnd hp];exact hnd.filter _
  .intro q hq
   have hq':q∈k1++k2∧¬q=p:=by
    have:=List.mem_filter.1 hq;exact⟨this.1,by simpa using this.2⟩
   have:¬((gp q:Nat):Int)=(gp p:Nat):=fun e=>hq'.2 (gp_inj hnd hq'.1 hp (by omega))
   rw[updI_other _ _ this];exact mOf_some hnd hq'.1
  .intro z hz
   by_cases e:z=(gp p:Nat)
   .subst e;exact updI_same _ _ _
   .rw[updI_other _ _ e]
    unfold mOf;rw[Option.map_eq_none_iff,List.find?_eq_none];intro q hq e2;have e2:((gp q:Nat):Int)=z:=by simpa using e2
    refine hz q ?_ e2;have:¬q=p:=by rintro rfl;exact e e2.symm
    exact List.mem_filter.2 ⟨hq,by simpa using this⟩
 rw[e1,ea]at hM
 have hmap:∀l:List Nat,(∀x∈l,x∈k1++k2)->(awayN l p).map gp=awayN (l.map gp) (gp p):=by
  intro l hl;unfold awayN;rw[List.filter_map]
  congr 1
  apply List.filter_congr;intro q hq;by_cases e:q=p
  .subst e;simp
  .have:¬gp q=gp p:=fun e2=>e (gp_inj hnd (hl q hq) hp e2)
   simp[e,this]
 have eb:awayN b1 (gp p)++awayN b2 (gp p)=awayN (b1++b2) (gp p):=by unfold awayN;exact(List.filter_append ..).symm
 refine⟨⟨hR.fr f2 (fun i hi e=>h.d2 (e▸hi)),(h.pg.fr f1 h.d1).fr f2 h.d3,?_,?_,?_,?_,?_,fun x hx=>h.lt x ?_,h.hn,h.d1,h.d2,h.d3⟩,(f1.mono (fun i q=>.inl q)).trans f2 (fun i q=>.inl (.inr (.inr q)))⟩
 .have:(k1++k2).length-1=(awayN k1 p++awayN k2 p).length:=by rw[<-ea];omega
  rw[<-this];exact hM
 .rw[hmap k1 (fun x hx=>List.mem_append.2 (.inl hx)),<-h.h1]
 .rw[hmap k2 (fun x hx=>List.mem_append.2 (.inr hx)),<-h.h2]
 .rw[eb];exact h.nd.filter _
 .have:=h.tl
  rw[ea]at hlen;simp only[List.length_append,List.length_cons,List.length_nil]at*;omega
 .rw[eb]at hx;exact(List.mem_filter.1 hx).1
theorem ga_forget_yes(h:GA w gr gpb mb out k1 k2 sp gp b1 b2 FG)(g:GH w b gr gpb mb out FG){p:Nat}(hp:p∈k1++k2):
  Calls prog 228 #[.pointer (some ⟨b,5,none⟩),.int .u32 (gp p:Nat)] w fun e w'=>e=.returned (.bool true)∧GA w' gr gpb mb out (awayN k1 p) (awayN k2 p) (sp++[p]) gp (awayN b1 (gp p)) (awayN b2 (gp p)) FG∧Fr (FGm FG gpb mb) w w':=by
 have c7:=g.c7;have c5:=g.c5;have hr:=h.rr.row3;have hpn:p<out:=(List.mem_append.1 hp).elim (hr.bl p) (hr.bm p);have HM:=Hd h.mp;have HX:=Hd (mOf_some h.ndk hp);have HW:=Hd (h.lt (gp p) (by rw[h.h1,h.h2,<-List.map_append];exact List.mem_map.2 ⟨p,hp,rfl⟩)).wf;have HB:=Hd (back_yes h.rr 2 p (by omega) hpn);have HG:=Hd g;have HD:=Hd h.d2;have KEY:=Hd (fun w1 w2=>@GA.forgot w gr gpb mb out k1 k2 sp gp b1 b2 FG h p hp w1 w2);clear h g hr hp;generalize gp p=x at*;go_enter func228,ntmps228
 go_wp2_with(at_lookup;go_must(refine wp_lookN_some MIg HM.out HX.out rfl _ _ rfl (by rfl) (by rfl) HW.out ?_))
 refine HB.out.mono ?_;clear HB;rintro e w1⟨rfl,hR,f1⟩;have hg1:=HG.out.fr f1 HG.out.n1;have e7:=hg1.c7;have HM1:=Hd (HM.out.fr f1 HD.out);have HR:=Hd hR;have HF1:=Hd f1;clear hR f1 hg1 HM
 go_wp2_with(at_delete;go_must(refine wp_delN MIg HM1.out rfl _ _ rfl (by rfl) (by rfl) HW.out ?_);intro w2 hm2 f2;have K:=Hd (KEY.out w1 w2 HR.out HF1.out hm2 f2);clear hm2 f2)
 go_returns;exact⟨rfl,K.out⟩
end
def bnd(most:Nat)(b1 b2:List Nat):List Nat×List Nat:=if most<b1.length+b2.length then(if b2.length<b1.length then(b1.drop 1,b2)else(b1,b2.drop 1))else(b1,b2)
section
variable{w w' w'':World}{b gr gpb mb out:Nat}{k1 k2 sp:List Nat}{gp:Nat->Nat}{b1 b2:List Nat}{FG:Nat->Prop}
theorem RemA.trans0(f:Fr NoF w w')(h:RemA w' gr gpb mb out b1 b2 FG w''):RemA w gr gpb mb out b1 b2 FG w'':=by
 obtain⟨k1,k2,sp,gp,h,f2⟩:=h;exact⟨k1,k2,sp,gp,h,(f.mono (fun _ q=>q.elim)).trans f2 (fun _ q=>.inl q)⟩
theorem RemA.refl(h:GA w gr gpb mb out k1 k2 sp gp b1 b2 FG)(d:Nat):RemA w gr gpb mb out b1 b2 FG (w.drewN d):=
 ⟨k1,k2,sp,gp,h.fr0 ((Fr.refl NoF w).drewN d),(Fr.refl (FGm FG gpb mb) w).drewN d⟩
theorem ga_first(h:GA w gr gpb mb out k1 k2 sp gp b1 b2 FG):(Calls prog 173 #[.pointer (some ⟨gr,0,none⟩),.int .i64 0] w fun e w'=>e=.returned (.int .i64 (ixI k1.head?))∧∃d,w.drewN d=w')∧
  (Calls prog 173 #[.pointer (some ⟨gr,0,none⟩),.int .i64 1] w fun e w'=>e=.returned (.int .i64 (ixI k2.head?))∧∃d,w.drewN d=w')∧
  Calls prog 173 #[.pointer (some ⟨gr,0,none⟩),.int .i64 2] w fun e w'=>e=.returned (.int .i64 (ixI sp.head?))∧∃d,w.drewN d=w':=⟨First_all h.rr 0,First_all h.rr 1,First_all h.rr 2⟩
theorem away_head{l:List Nat}{x:Nat}(hn:(x::l).Nodup):awayN (x::l) x=l:=by
 have e2:awayN (x::l) x=awayN l x:=by simp[awayN]
 rw[e2,awayN_not (List.nodup_cons.1 hn).1]
theorem ga_drop0{p:Nat}{l:List Nat}(h:GA w gr gpb mb out (p::l) k2 sp gp b1 b2 FG):awayN b1 (gp p)=b1.drop 1∧awayN b2 (gp p)=b2:=by
 have h1:b1=gp p::l.map gp:=h.h1;have hn:=h.nd;rw[h1]at hn⊢;have hn':=List.nodup_append.1 hn;exact⟨away_head hn'.1,awayN_not (fun q=>hn'.2.2 (gp p) (List.mem_cons_self ..) (gp p) q rfl)⟩
theorem ga_drop1{p:Nat}{l:List Nat}(h:GA w gr gpb mb out k1 (p::l) sp gp b1 b2 FG):awayN b1 (gp p)=b1∧awayN b2 (gp p)=b2.drop 1:=by
 have h2:b2=gp p::l.map gp:=h.h2;have hn:=h.nd;rw[h2]at hn⊢;have hn':=List.nodup_append.1 hn;exact⟨awayN_not (fun q=>hn'.2.2 (gp p) q (gp p) (List.mem_cons_self ..) rfl),away_head hn'.2.1⟩
theorem ga_eldest_no(h:GA w gr gpb mb out k1 k2 sp gp b1 b2 FG)(g:GH w b gr gpb mb out FG)(k:Int)(hF:Calls prog 173 #[.pointer (some ⟨gr,0,none⟩),.int .i64 k] w fun e w'=>e=.returned (.int .i64 (-1))∧∃d,w.drewN d=w'):
  Calls prog 235 #[.pointer (some ⟨b,5,none⟩),.int .i64 k] w fun e w'=>e=.returned (.tuple #[])∧RemA w gr gpb mb out b1 b2 FG w':=by
 have c5:=g.c5;have HF:=Hd hF;have HR:=Hd (fun d=>RemA.refl h d);clear h g hF;go_enter func235,ntmps235
 go_wp2_with fail
 refine HF.out.mono ?_;clear HF;rintro e w1⟨rfl,d,rfl⟩;go_wp2;go_returns;exact⟨rfl,HR.out _⟩
theorem ga_eldest_yes(h:GA w gr gpb mb out k1 k2 sp gp b1 b2 FG)(g:GH w b gr gpb mb out FG)(k:Int){p:Nat}(hp:p∈k1++k2)(hF:Calls prog 173 #[.pointer (some ⟨gr,0,none⟩),.int .i64 k] w fun e w'=>e=.returned (.int .i64 p)∧∃d,w.drewN d=w'):
  Calls prog 235 #[.pointer (some ⟨b,5,none⟩),.int .i64 k] w fun e w'=>e=.returned (.tuple #[])∧RemA w gr gpb mb out (awayN b1 (gp p)) (awayN b2 (gp p)) FG w':=by
 have c5:=g.c5;have c6:=g.c6;have hr:=h.rr.row3;have hpn:p<out:=(List.mem_append.1 hp).elim (hr.bl p) (hr.bm p);have hn:=h.hn;have cp:w.cell? ⟨gpb,p,none⟩=some (.int .u32 (gp p:Nat)):=h.pg.cell hpn;have HF:=Hd hF
 have HY:Hid (∀d,Calls prog 228 #[.pointer (some ⟨b,5,none⟩),.int .u32 (gp p:Nat)] (w.drewN d) fun e w'=>e=.returned (.bool true)∧RemA w gr gpb mb out (awayN b1 (gp p)) (awayN b2 (gp p)) FG w'):=by
  intro d;have f:Fr NoF w (w.drewN d):=(Fr.refl NoF w).drewN d;exact(ga_forget_yes (h.fr0 f) (g.fr f id) hp).mono fun e w' ⟨he,h1,h2⟩=>⟨he,RemA.trans0 f ⟨_,_,_,_,h1,h2⟩⟩
 clear h g hF hr hp;generalize gp p=x at*;go_enter func235,ntmps235
 go_wp2_with fail
 refine HF.out.mono ?_;clear HF;rintro e w1⟨rfl,d,rfl⟩
 go_wp2_with fail
 refine(HY.out d).mono ?_;rintro e w2⟨rfl,h2⟩;have H2:=Hd h2;clear h2 HY;go_wp2;go_returns;exact⟨rfl,H2.out⟩
theorem ga_eldest(h:GA w gr gpb mb out k1 k2 sp gp b1 b2 FG)(g:GH w b gr gpb mb out FG):
  (Calls prog 235 #[.pointer (some ⟨b,5,none⟩),.int .i64 0] w fun e w'=>e=.returned (.tuple #[])∧RemA w gr gpb mb out (b1.drop 1) b2 FG w')∧
  Calls prog 235 #[.pointer (some ⟨b,5,none⟩),.int .i64 1] w fun e w'=>e=.returned (.tuple #[])∧RemA w gr gpb mb out b1 (b2.drop 1) FG w':=by
 have hf:=ga_first h;constructor
 .cases k1 with
  |nil=>
   have e:b1=[]:=h.h1;rw[show b1.drop 1=b1 from by rw[e];rfl];exact ga_eldest_no h g 0 hf.1
  |cons p l=>
   obtain⟨e1,e2⟩:=ga_drop0 h;have:=ga_eldest_yes h g 0 (p:=p) (by simp) hf.1;rw[e1,e2]at this;exact this
 .cases k2 with
  |nil=>
   have e:b2=[]:=h.h2;rw[show b2.drop 1=b2 from by rw[e];rfl];exact ga_eldest_no h g 1 hf.2.1
  |cons p l=>
   obtain⟨e1,e2⟩:=ga_drop1 h;have:=ga_eldest_yes h g 1 (p:=p) (by simp) hf.2.1;rw[e1,e2]at this;exact this
theorem GA.laid(h:GA w gr gpb mb out k1 k2 sp gp b1 b2 FG){p x:Nat}(hp:p∈sp)(hx:isU32 x)(hm:¬x∈b1++b2)(k:Nat)(hk:k<2){w1 w2:World}(hR:RR w1 gr out 3 (putL [k1,k2,sp] k p false) FG)(f1:Fr FG w w1)
  (hM:MpN prog 34 3 .u32 .i64 w2 mb (if(mOf (k1++k2) gp (x:Int)).isSome then(k1++k2).length else(k1++k2).length+1) (updI (mOf (k1++k2) gp) (x:Int) (some (p:Int))))(f2:Fr (fun i=>i=mb) (w1.setCell ⟨gpb,p,none⟩ (.int .u32 (x:Nat))) w2):
  RemA w gr gpb mb out (if k=0 then b1++[x]else b1) (if k=0 then b2 else b2++[x]) FG w2:=by
 have hr:=h.rr.row3;have hnk:=h.ndk;have hp1:¬p∈k1:=fun q=>hr.ls p q hp
 have hp2:¬p∈k2:=fun q=>hr.ms p q hp
 have hp12:¬p∈k1++k2:=fun q=>(List.mem_append.1 q).elim hp1 hp2
 rw[h.nope hm]at hM
 have hmap:∀l:List Nat,¬p∈l->l.map (upd gp p x)=l.map gp:=by
  intro l hl;apply List.map_congr_left;intro q hq;rw[upd_other];rintro rfl;exact hl hq
 have hx1:¬x∈b1:=fun q=>hm (List.mem_append.2 (.inl q))
 have hx2:¬x∈b2:=fun q=>hm (List.mem_append.2 (.inr q))
 have hn:=List.nodup_append.1 h.nd;have fs:Fr (fun i=>i=gpb) w1 (w1.setCell ⟨gpb,p,none⟩ (.int .u32 (x:Nat))):=(Fr.refl (fun i=>i=gpb) w1).setCell (p:=⟨gpb,p,none⟩) (.inl rfl) _
 have hpg:Blk w2 gpb out (uN (upd gp p x)):=by
  rw[<-uN_set];exact((h.pg.fr f1 h.d1).set _ _).fr f2 h.d3
 have hF:Fr (FGm FG gpb mb) w w2:=((f1.mono (fun i q=>.inl q)).trans fs (fun i q=>.inl (.inr (.inl q)))).trans f2 (fun i q=>.inl (.inr (.inr q)));have hR2:=(hR.fr fs (fun i hi e=>h.d1 (e▸hi))).fr f2 (fun i hi e=>h.d2 (e▸hi));have hl:=awayN_len hr.ns hp;have htl:=h.tl
 have hmp:∀l:List Nat,(l.map (upd gp p x)).Nodup->(∀q,q∈l↔q∈k1++k2∨q=p)->updI (mOf (k1++k2) gp) (x:Int) (some (p:Int))=mOf l (upd gp p x):=by
  intro l hln hlm;refine mOf_eq hln ?_ ?_
  .intro q hq
   rcases(hlm q).1 hq with hq1|rfl
   .have hqp:¬q=p:=fun e=>hp12 (e▸hq1)
    rw[upd_other _ _ hqp];have:¬((gp q:Nat):Int)=(x:Int):=fun e=>hm (by rw[h.h1,h.h2,<-List.map_append];exact List.mem_map.2 ⟨q,hq1,by omega⟩)
    rw[updI_other _ _ this];exact mOf_some hnk hq1
   .rw[upd_same,updI_same]
  .intro z hz
   have hzx:¬z=(x:Int):=fun e=>hz p ((hlm p).2 (.inr rfl)) (by rw[upd_same,e])
   rw[updI_other _ _ hzx];unfold mOf;rw[Option.map_eq_none_iff,List.find?_eq_none];intro q hq e2;have e2:((gp q:Nat):Int)=z:=by simpa using e2
   have hqp:¬q=p:=by rintro rfl;exact hp12 hq
   exact hz q ((hlm q).2 (.inl hq)) (by rw[upd_other _ _ hqp];exact e2)
 obtain rfl|rfl:k=0∨k=1:=by omega
 .rw[putL3_0 hr.toD3,awayN_not hp1,awayN_not hp2]at hR2
  rw[if_pos rfl,if_pos rfl];have e1:b1++[x]=(k1++[p]).map (upd gp p x):=by rw[List.map_append,hmap k1 hp1,<-h.h1];simp[upd_same]
  have e2:b2=k2.map (upd gp p x):=by rw[hmap k2 hp2];exact h.h2
  have hnd:((b1++[x])++b2).Nodup:=by
   rw[List.nodup_append];refine⟨?_,hn.2.1,fun y hy z hz e=>?_⟩
   .rw[List.nodup_append]
    refine⟨hn.1,by simp,fun y hy z hz e=>?_⟩;rw[List.mem_singleton.1 hz]at e;exact hx1 (e▸hy)
   .rcases List.mem_append.1 hy with q|q
    .exact hn.2.2 y q z hz e
    .rw[List.mem_singleton.1 q]at e;exact hx2 (e▸hz)
  have hmm:=hmp ((k1++[p])++k2) (by rw[List.map_append,<-e1,<-e2];exact hnd) (fun q=>by simp only[List.mem_append,List.mem_singleton];exact⟨fun h=>h.elim (fun h=>h.elim (fun h=>.inl (.inl h)) .inr) (fun h=>.inl (.inr h)),fun h=>h.elim (fun h=>h.elim (fun h=>.inl (.inl h)) .inr) (fun h=>.inl (.inr h))⟩);rw[hmm]at hM;refine⟨k1++[p],k2,awayN sp p,upd gp p x,⟨hR2,hpg,?_,e1,e2,hnd,?_,fun y hy=>?_,h.hn,h.d1,h.d2,h.d3⟩,hF⟩
  .have:(k1++[p]++k2).length=(k1++k2).length+1:=by simp;omega
   rw[this];exact hM
  .rw[List.length_append];simp;omega
  .rcases List.mem_append.1 hy with q|q
   .rcases List.mem_append.1 q with q|q
    .exact h.lt y (List.mem_append.2 (.inl q))
    .rw[List.mem_singleton.1 q];exact hx
   .exact h.lt y (List.mem_append.2 (.inr q))
 .rw[putL3_1 hr.toD3,awayN_not hp1,awayN_not hp2]at hR2
  rw[if_neg (by omega),if_neg (by omega)];have e1:b1=k1.map (upd gp p x):=by rw[hmap k1 hp1];exact h.h1
  have e2:b2++[x]=(k2++[p]).map (upd gp p x):=by rw[List.map_append,hmap k2 hp2,<-h.h2];simp[upd_same]
  have hnd:(b1++(b2++[x])).Nodup:=by
   rw[List.nodup_append];refine⟨hn.1,?_,fun y hy z hz e=>?_⟩
   .rw[List.nodup_append]
    refine⟨hn.2.1,by simp,fun y hy z hz e=>?_⟩;rw[List.mem_singleton.1 hz]at e;exact hx2 (e▸hy)
   .rcases List.mem_append.1 hz with q|q
    .exact hn.2.2 y hy z q e
    .rw[List.mem_singleton.1 q]at e;exact hx1 (e▸hy)
  have hmm:=hmp (k1++(k2++[p])) (by rw[List.map_append,<-e1,<-e2];exact hnd) (fun q=>by simp only[List.mem_append,List.mem_singleton];exact⟨fun h=>h.elim (fun h=>.inl (.inl h)) (fun h=>h.elim (fun h=>.inl (.inr h)) .inr),fun h=>h.elim (fun h=>h.elim .inl (fun h=>.inr (.inl h))) (fun h=>.inr (.inr h))⟩);rw[hmm]at hM;refine⟨k1,k2++[p],awayN sp p,upd gp p x,⟨hR2,hpg,?_,e1,e2,hnd,?_,fun y hy=>?_,h.hn,h.d1,h.d2,h.d3⟩,hF⟩
  .have:(k1++(k2++[p])).length=(k1++k2).length+1:=by simp;omega
   rw[this];exact hM
  .rw[List.length_append];simp;omega
  .rcases List.mem_append.1 hy with q|q
   .exact h.lt y (List.mem_append.2 (.inl q))
   .rcases List.mem_append.1 q with q|q
    .exact h.lt y (List.mem_append.2 (.inr q))
    .rw[List.mem_singleton.1 q];exact hx
theorem ga_remember(h:GA w gr gpb mb out k1 k2 sp gp b1 b2 FG)(g:GH w b gr gpb mb out FG){x:Nat}(hx:isU32 x)(hm:¬x∈b1++b2)(k:Nat)(hk:k<2)(hs:b1.length+b2.length<out):
  Calls prog 232 #[.pointer (some ⟨b,5,none⟩),.int .i64 k,.int .u32 x] w fun e w'=>e=.returned (.tuple #[])∧RemA w gr gpb mb out (if k=0 then b1++[x]else b1) (if k=0 then b2 else b2++[x]) FG w':=by
 have c5:=g.c5;have hlen:=h.len;have htl:=h.tl
 obtain⟨p,sp,rfl⟩:∃p l,sp=p::l:=by
  cases sp with
  |nil=>simp at htl;omega
  |cons p l=>exact⟨p,l,rfl⟩
 have hr:=h.rr.row3;have hp:p<out:=hr.bs p (List.mem_cons_self ..);have hn:=h.hn;have HF:=(ga_first h).2.2;simp only[List.head?_cons,ixI]at HF
 replace HF:=Hd HF
 have HFO:=Hd (ga_forget_no h g hx hm)
 have HB:Hid (∀d,Calls prog 74 #[.pointer (some ⟨gr,0,none⟩),.int .i64 k,.int .i64 p] (w.drewN d) fun e w'=>e=.returned (.bool true)∧RR w' gr out 3 (putL [k1,k2,p::sp] k p false) FG∧Fr FG w w'):=by
  intro d;have f:Fr NoF w (w.drewN d):=(Fr.refl NoF w).drewN d;exact(back_yes (h.rr.fr f (fun _ _ q=>q)) k p (by omega) hp).mono fun e w' ⟨he,h1,h2⟩=>⟨he,h1,(f.mono (fun _ q=>q.elim)).trans h2 (fun _ q=>.inl q)⟩
 have HH:=Hd h;have HG:=Hd g;have HW:=Hd hx.wf;have KEY:=Hd (fun w1 w2=>@GA.laid w gr gpb mb out k1 k2 (p::sp) gp b1 b2 FG h p x (List.mem_cons_self ..) hx hm k hk w1 w2);have hcn:(k1++k2).length<1000000:=by rw[List.length_append];omega
 clear h g hx hm hr;generalize(if k=0 then b1++[x]else b1)=c1 at*;generalize(if k=0 then b2 else b2++[x])=c2 at*;go_enter func232,ntmps232
 go_wp2_with fail
 refine HFO.out.mono ?_;clear HFO;rintro e w1⟨rfl,rfl⟩
 go_wp2_with fail
 refine HF.out.mono ?_;clear HF;rintro e w1⟨rfl,d,rfl⟩
 go_wp2_with fail
 refine(HB.out d).mono ?_;clear HB;rintro e w2⟨rfl,hR,f1⟩;have hg2:=HG.out.fr f1 HG.out.n1;have e6:=hg2.c6;have e7:=hg2.c7;have lb:=hg2.lb;have n2:=hg2.n2;have hpg:=HH.out.pg.fr f1 HH.out.d1;have cp:w2.cell? ⟨gpb,p,none⟩=some (.int .u32 (gp p:Nat)):=hpg.cell hp;have fp:=hpg.frozen p;have lg:=hpg.lt;have HM2:Hid (MpN prog 34 3 .u32 .i64 (w2.setCell ⟨gpb,p,none⟩ (.int .u32 x)) mb (k1++k2).length (mOf (k1++k2) gp)):=(HH.out.mp.fr f1 HH.out.d2).fr ((Fr.refl (fun i=>i=gpb) w2).setCell (p:=⟨gpb,p,none⟩) (.inl rfl) _) (fun e=>HH.out.d3 e.symm);have HR:=Hd hR;have HF1:=Hd f1;have HWp:Hid ((Lit.int .i64 (p:Int)).wf=true):=WalkArith.wf_i64 ⟨by omega,by omega⟩;have HCN:=Hd hcn;generalize gp p=z at cp;clear hR f1 hg2 hpg hlen htl hcn
 go_wp2_with(at_mapUpdate;go_must(refine wp_putN MIg HM2.out HCN.out rfl _ _ _ rfl (by rfl) (by rfl) (by rfl) HW.out HWp.out ?_);intro w3 hm3 f3;have K:=Hd (KEY.out w2 w3 HR.out HF1.out hm3 f3);clear hm3 f3)
 go_returns;exact⟨rfl,K.out⟩
theorem bnd_stop{most:Nat}{b1 b2:List Nat}(h:¬most<b1.length+b2.length):bnd most b1 b2=(b1,b2):=by unfold bnd;rw[if_neg h]
theorem bnd_len{most:Nat}{b1 b2:List Nat}(h:b1.length+b2.length<=most+1):(bnd most b1 b2).1.length+(bnd most b1 b2).2.length<=most:=by
 unfold bnd
 split
 .split
  .simp only[List.length_drop];omega
  .simp only[List.length_drop];omega
 .simp only;omega
theorem ga_bound(h:GA w gr gpb mb out k1 k2 sp gp b1 b2 FG)(g:GH w b gr gpb mb out FG)(most:Nat)(hm:most<=65535)(hl:b1.length+b2.length<=most+1):
  Calls prog 233 #[.pointer (some ⟨b,5,none⟩),.int .i64 most] w fun e w'=>e=.returned (.tuple #[])∧RemA w gr gpb mb out (bnd most b1 b2).1 (bnd most b1 b2).2 FG w':=by
 have HG:=Hd g;have HR:=Hd (RemA.refl h 0);have HL:=Hd hl;clear h g hl;go_enter func233,ntmps233;go_wp2
 go_loopg [] (b1.length+b2.length) (fun g wr=>∃c1 c2,g=c1.length+c2.length∧c1.length+c2.length<=most+1∧bnd most c1 c2=bnd most b1 b2∧RemA w gr gpb mb out c1 c2 FG wr)
 case atStart=>exact⟨b1,b2,rfl,HL.out,rfl,HR.out⟩
 case round=>
  obtain⟨c1,c2,rfl,hcl,hb,hr⟩:=hrel;obtain⟨j1,j2,js,jp,hga,hf⟩:=hr
  have hgh:=HG.out.fr hf (fun q=>by
   rcases q with q|q|q
   .exact HG.out.n1 q
   .exact HG.out.n2 q
   .exact HG.out.n3 q)
  have HL0:=Hd (ga_len0 hga hgh);have HL1:=Hd (ga_len1 hga hgh)
  have HE0:Hid (Calls prog 235 #[.pointer (some ⟨b,5,none⟩),.int .i64 0] wr fun e w'=>e=.returned (.tuple #[])∧RemA w gr gpb mb out (c1.drop 1) c2 FG w'):=
   (ga_eldest hga hgh).1.mono fun e w' ⟨he,q1,q2,qs,qp,h1,h2⟩=>⟨he,q1,q2,qs,qp,h1,hf.trans h2 (fun _ q=>.inl q)⟩
  have HE1:Hid (Calls prog 235 #[.pointer (some ⟨b,5,none⟩),.int .i64 1] wr fun e w'=>e=.returned (.tuple #[])∧RemA w gr gpb mb out c1 (c2.drop 1) FG w'):=
   (ga_eldest hga hgh).2.mono fun e w' ⟨he,q1,q2,qs,qp,h1,h2⟩=>⟨he,q1,q2,qs,qp,h1,hf.trans h2 (fun _ q=>.inl q)⟩
  have HB:=Hd hb;have HK:Hid (RemA w gr gpb mb out c1 c2 FG wr):=⟨_,_,_,_,hga,hf⟩;clear hga hf hgh hb;by_cases h1:most<c1.length+c2.length
  .by_cases h2:c2.length<c1.length
   .have D1:Hid (bnd most (c1.drop 1) (c2)=bnd most b1 b2):=by
     unfold Hid;rw[bnd_stop (by rw[List.length_drop];omega),<-HB.out];unfold bnd;rw[if_pos h1,if_pos h2]
    have D2:Hid ((c1.drop 1).length+(c2).length<c1.length+c2.length∧(c1.drop 1).length+(c2).length<=most+1):=by unfold Hid;rw[List.length_drop];omega
    have hc0:c1.length<=65536:=by omega
    have hc1:c2.length<=65536:=by omega
    go_wp2_with(first
     |(go_at_call 234;(with_reducible refine HL0.out.mono ?_);rintro e w'⟨rfl,rfl⟩)
     |(go_at_call 234;(with_reducible refine HL1.out.mono ?_);rintro e w'⟨rfl,rfl⟩))
    refine HE0.out.mono ?_;rintro e w2⟨rfl,h3⟩;have H3:=Hd h3;clear h3 HL0 HL1 HE0 HE1;go_wp2
    go_roundg ((c1.drop 1).length+(c2).length)
    case measure=>exact D2.out.1
    case rel=>exact⟨c1.drop 1,c2,rfl,D2.out.2,D1.out,H3.out⟩
   .have D1:Hid (bnd most (c1) (c2.drop 1)=bnd most b1 b2):=by
     unfold Hid;rw[bnd_stop (by rw[List.length_drop];omega),<-HB.out];unfold bnd;rw[if_pos h1,if_neg h2]
    have D2:Hid ((c1).length+(c2.drop 1).length<c1.length+c2.length∧(c1).length+(c2.drop 1).length<=most+1):=by unfold Hid;rw[List.length_drop];omega
    have hc0:c1.length<=65536:=by omega
    have hc1:c2.length<=65536:=by omega
    go_wp2_with(first
     |(go_at_call 234;(with_reducible refine HL0.out.mono ?_);rintro e w'⟨rfl,rfl⟩)
     |(go_at_call 234;(with_reducible refine HL1.out.mono ?_);rintro e w'⟨rfl,rfl⟩))
    refine HE1.out.mono ?_;rintro e w2⟨rfl,h3⟩;have H3:=Hd h3;clear h3 HL0 HL1 HE0 HE1;go_wp2
    go_roundg ((c1).length+(c2.drop 1).length)
    case measure=>exact D2.out.1
    case rel=>exact⟨c1,c2.drop 1,rfl,D2.out.2,D1.out,H3.out⟩
  .have D1:Hid ((bnd most b1 b2).1=c1∧(bnd most b1 b2).2=c2):=by
    rw[<-HB.out,bnd_stop h1];exact⟨rfl,rfl⟩
   have hc0:c1.length<=65536:=by omega
   have hc1:c2.length<=65536:=by omega
   go_wp2_with(first
    |(go_at_call 234;(with_reducible refine HL0.out.mono ?_);rintro e w'⟨rfl,rfl⟩)
    |(go_at_call 234;(with_reducible refine HL1.out.mono ?_);rintro e w'⟨rfl,rfl⟩))
   go_returns;refine⟨rfl,?_⟩;rw[D1.out.1,D1.out.2];exact HK.out
end
end
end Go.Proofs.YtoenclhimbpfeaaGreatDoor
