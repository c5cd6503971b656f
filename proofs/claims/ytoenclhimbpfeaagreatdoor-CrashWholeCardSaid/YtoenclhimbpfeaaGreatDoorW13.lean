/- Part 13. -/
import Derived.Test.YtoenclhimbpfeaaGreatDoorW04
namespace Go.Proofs.YtoenclhimbpfeaaGreatDoor
set_option linter.all false
set_option maxHeartbeats 16000000
set_option maxRecDepth 100000
section
open Go.Maps Go.Proofs.Tryz Go.RowKit
theorem RR.row2{w:World}{b n:Nat}{l m:List Nat}{F:Nat->Prop}(h:RR w b n 2 [l,m] F):l.Nodup/\m.Nodup/\(∀x∈l,x<n)/\(∀x∈m,x<n)/\∀x∈l,¬x∈m:=by
 obtain⟨nb,lb,rw,nx,pv,ls,hc,hi,hF⟩:=h.ex;refine⟨hi.nd 0 l rfl,hi.nd 1 m rfl,λx hx=>(hi.mem 0 l rfl x hx).1,λx hx=>(hi.mem 1 m rfl x hx).1,λx hx hm=>?_⟩;have h1:=(hi.mem 0 l rfl x hx).2;have h2:=(hi.mem 1 m rfl x hm).2;omega
theorem jq(l m:List Nat)(x:Nat):aG [l,m] x=if x∈l then some 0 else if x∈m then some 1 else none:=by
 by_cases h:x∈l
 .simp[aG,List.findIdx?_cons,h]
 .by_cases h2:x∈m<;>simp[aG,List.findIdx?_cons,h,h2]
theorem ah{l:List Nat}{x:Nat}(h:¬x∈l):ac l x=l:=by
 unfold ac;rw[List.filter_eq_self];intro a ha;have:¬a=x:=λe=>h (e▸ha)
 simp[this]
theorem mK{l m:List Nat}(hd:∀x∈l,¬x∈m)(x:Nat):bO [l,m] x=[ac l x,ac m x]:=by
 by_cases h:x∈l
 .rw[ah (hd x h)];simp[bO,jq,h,ac]
 .by_cases h2:x∈m
  .rw[ah h];simp[bO,jq,h,h2,ac]
  .rw[ah h,ah h2];simp[bO,jq,h,h2]
theorem j8{l m:List Nat}(hd:∀x∈l,¬x∈m)(x:Nat):cH [l,m] 0 x false=[ac l x++[x],ac m x]:=by simp[cH,mK hd]
theorem dz{l m:List Nat}(hd:∀x∈l,¬x∈m)(x:Nat):cH [l,m] 1 x false=[ac l x,ac m x++[x]]:=by simp[cH,mK hd]
theorem dW{l:List Nat}(hn:l.Nodup){x:Nat}(h:x∈l):(ac l x).length+1=l.length:=by
 induction l with
 |nil=>cases h
 |cons a l ih=>
  have hn':=List.nodup_cons.1 hn;by_cases e:a=x
  .subst e
   have e2:ac (a::l) a=ac l a:=by simp[ac]
   rw[e2,ah hn'.1];rfl
  .have e2:ac (a::l) x=a::ac l x:=by simp[ac,e]
   rw[e2];have:=ih hn'.2 ((List.mem_cons.1 h).resolve_left (λq=>e q.symm));simp;omega
def aK(x:Nat):Prop:=x<4294967296
theorem aK.wf{x:Nat}(h:aK x):(Lit.int .u32 (x:Int)).wf=true:=WalkArith.wf_u32 ⟨by omega,by unfold aK at h;omega⟩
theorem MIg:MI prog 111 34 3 .u32 .i64:=⟨underlying111,underlying34,underlying3,λw=>by kernel_rfl⟩
def mOf(tk:List Nat)(gp:Nat->Nat):Int->Option Int:=λz=>(tk.find? λp=>decide (((gp p:Nat):Int)=z)).map λ(p:Nat)=>(p:Int)
structure GR(w:World)(gr gpb mb out:Nat)(tk sp:List Nat)(gp:Nat->Nat)(gh:List Nat)(FG:Nat->Prop):Prop where
 rr:RR w gr out 2 [tk,sp] FG
 pg:Blk w gpb out (uN gp)
 mp:MpN prog 34 3 .u32 .i64 w mb tk.length (mOf tk gp)
 hg:gh=tk.map gp
 nd:gh.Nodup
 tl:tk.length+sp.length=out
 lt:∀x∈gh,aK x
 hn:out<=65535
 d1:¬FG gpb
 d2:¬FG mb
 d3:¬gpb=mb
theorem GR.fr{w w':World}{gr gpb mb out:Nat}{tk sp:List Nat}{gp:Nat->Nat}{gh:List Nat}{FG G:Nat->Prop}(h:GR w gr gpb mb out tk sp gp gh FG)(f:Fr G w w')(h1:∀i,FG i->¬G i)(h2:¬G gpb)(h3:¬G mb):GR w' gr gpb mb out tk sp gp gh FG:=
 ⟨h.rr.fr f h1,h.pg.fr f h2,h.mp.fr f h3,h.hg,h.nd,h.tl,h.lt,h.hn,h.d1,h.d2,h.d3⟩
theorem lz{tk:List Nat}{gp:Nat->Nat}{x:Nat}(h:¬x∈tk.map gp):mOf tk gp (x:Int)=none:=by
 unfold mOf;rw[Option.map_eq_none_iff,List.find?_eq_none];intro p hp e;have e:((gp p:Nat):Int)=x:=by simpa using e
 exact h (List.mem_map.2 ⟨p,hp,by omega⟩)
theorem ji{tk:List Nat}{gp:Nat->Nat}(hn:(tk.map gp).Nodup){p q:Nat}(hp:p∈tk)(hq:q∈tk)(e:gp p=gp q):p=q:=by
 induction tk with
 |nil=>cases hp
 |cons a tk ih=>
  have hn':=List.nodup_cons.1 hn;rcases List.mem_cons.1 hp with e1|hp1
  .rcases List.mem_cons.1 hq with e2|hq1
   .rw[e1,e2]
   .exact(hn'.1 (by rw[<-e1,e];exact List.mem_map.2 ⟨q,hq1,rfl⟩)).elim
  .rcases List.mem_cons.1 hq with e2|hq1
   .exact(hn'.1 (by rw[<-e2,<-e];exact List.mem_map.2 ⟨p,hp1,rfl⟩)).elim
   .exact ih hn'.2 hp1 hq1
theorem bV{tk:List Nat}{gp:Nat->Nat}(hn:(tk.map gp).Nodup){p:Nat}(hp:p∈tk):mOf tk gp ((gp p:Nat):Int)=some (p:Int):=by
 unfold mOf
 cases e:tk.find? λq=>decide (((gp q:Nat):Int)=((gp p:Nat):Int))with
 |none=>
  have:=List.find?_eq_none.1 e p hp;simp at this
 |some q=>
  have h1:=List.find?_some e;have h2:=List.mem_of_find?_eq_some e;have h1:((gp q:Nat):Int)=(gp p:Nat):=by simpa using h1
  rw[ji hn h2 hp (by omega)];rfl
theorem ol{tk:List Nat}{gp:Nat->Nat}(hn:(tk.map gp).Nodup){m:Int->Option Int}(h1:∀p∈tk,m ((gp p:Nat):Int)=some (p:Int))(h2:∀z,(∀p∈tk,¬((gp p:Nat):Int)=z)->m z=none):m=mOf tk gp:=by
 funext z
 by_cases h:∃p∈tk,((gp p:Nat):Int)=z
 .obtain⟨p,hp,rfl⟩:=h
  rw[bV hn hp,h1 p hp]
 .have h':∀p∈tk,¬((gp p:Nat):Int)=z:=λp hp e=>h ⟨p,hp,e⟩
  rw[h2 z h'];unfold mOf
  symm
  rw[Option.map_eq_none_iff,List.find?_eq_none];intro p hp e;exact h' p hp (by simpa using e)
theorem jg{tk:List Nat}{gp:Nat->Nat}(hn:(tk.map gp).Nodup){p:Nat}(hp:p∈tk):(ac tk p).map gp=ac (tk.map gp) (gp p):=by
 unfold ac;rw[List.filter_map]
 congr 1
 apply List.filter_congr;intro q hq;by_cases e:q=p
 .subst e;simp
 .have:¬gp q=gp p:=λe2=>e (ji hn hq hp e2)
  simp[e,this]
structure GH(w:World)(b gr gpb mb out:Nat)(FG:Nat->Prop):Prop where
 c5:w.cell? ⟨b,5,none⟩=some (.pointer (some ⟨gr,0,none⟩))
 c6:w.cell? ⟨b,6,none⟩=some (.slice (some ⟨gpb,0,none⟩) out out)
 c7:w.cell? ⟨b,7,none⟩=some (.map (some mb))
 lb:b<w.heap.size
 n1:¬FG b
 n2:¬b=gpb
 n3:¬b=mb
theorem GH.fr{w w':World}{b gr gpb mb out:Nat}{FG G:Nat->Prop}(h:GH w b gr gpb mb out FG)(f:Fr G w w')(hb:¬G b):GH w' b gr gpb mb out FG:=
 ⟨(f.cell (p:=⟨b,5,none⟩) h.lb hb).trans h.c5,(f.cell (p:=⟨b,6,none⟩) h.lb hb).trans h.c6,(f.cell (p:=⟨b,7,none⟩) h.lb hb).trans h.c7,Nat.lt_of_lt_of_le h.lb f.size,h.n1,h.n2,h.n3⟩
def FGm(FG:Nat->Prop)(gpb mb:Nat):Nat->Prop:=λi=>FG i\/i=gpb\/i=mb
section
variable{w w':World}{b gr gpb mb out:Nat}{tk sp:List Nat}{gp:Nat->Nat}{gh:List Nat}{FG:Nat->Prop}
theorem xW(h:GR w gr gpb mb out tk sp gp gh FG)(g:GH w b gr gpb mb out FG){x:Nat}(hx:aK x)(hm:¬x∈gh):
  Calls prog 215 #[.pointer (some ⟨b,5,none⟩),.int .u32 x] w λe w'=>e=.returned (.bool false)/\w=w':=by
 have c7:=g.c7;have HM:=Hd h.mp;have HX:=Hd (lz (x:=x) (h.hg▸hm));have HW:=Hd hx.wf;clear h g hx hm;go_enter func215,ntmps215
 go_wp2_with(at_lookup;go_must(refine bz MIg HM.out HX.out rfl _ _ rfl (by rfl) (by rfl) HW.out ?_))
 go_returns;exact⟨rfl,rfl⟩
theorem la(h:GR w gr gpb mb out tk sp gp gh FG)(g:GH w b gr gpb mb out FG){p:Nat}(hp:p∈tk):
  Calls prog 215 #[.pointer (some ⟨b,5,none⟩),.int .u32 (gp p:Nat)] w λe w'=>e=.returned (.bool true)/\GR w' gr gpb mb out (ac tk p) (sp++[p]) gp (ac gh (gp p)) FG/\Fr (FGm FG gpb mb) w w':=by
 have c7:=g.c7;have c5:=g.c5;have hr2:=h.rr.row2;have hpn:p<out:=hr2.2.2.1 p hp;have HM:=Hd h.mp;have HX:=Hd (bV (h.hg▸h.nd) hp);have HW:=Hd (h.lt (gp p) (by rw[h.hg];exact List.mem_map.2 ⟨p,hp,rfl⟩)).wf;have HB:=Hd (aI h.rr 1 p (by omega) hpn);have HG:=Hd g;have HH:=Hd h;have hlen:=dW hr2.1 hp
 have KEY:Hid (∀w1 w2,RR w1 gr out 2 (cH [tk,sp] 1 p false) FG->Fr FG w w1->MpN prog 34 3 .u32 .i64 w2 mb (if(mOf tk gp ((gp p:Nat):Int)).isSome then tk.length-1 else tk.length) (bX (mOf tk gp) ((gp p:Nat):Int) none)->Fr (λi=>i=mb) w1 w2->
   GR w2 gr gpb mb out (ac tk p) (sp++[p]) gp (ac gh (gp p)) FG/\Fr (FGm FG gpb mb) w w2):=by
  intro w1 w2 hR f1 hM f2;have h:=HH.out;rw[dz hr2.2.2.2.2,ah (hr2.2.2.2.2 p hp)]at hR;rw[HX.out]at hM;have hnd:=h.hg▸h.nd
  have e1:bX (mOf tk gp) ((gp p:Nat):Int) none=mOf (ac tk p) gp:=by
   refine ol ?_ ?_ ?_
   .rw[jg hnd hp];exact hnd.filter _
   .intro q hq
    have hq':q∈tk/\¬q=p:=by simpa[ac]using hq
    have:¬((gp q:Nat):Int)=(gp p:Nat):=λe=>hq'.2 (ji hnd hq'.1 hp (by omega))
    rw[aE _ _ this];exact bV hnd hq'.1
   .intro z hz
    by_cases e:z=(gp p:Nat)
    .subst e;exact ba _ _ _
    .rw[aE _ _ e]
     unfold mOf;rw[Option.map_eq_none_iff,List.find?_eq_none];intro q hq e2;have e2:((gp q:Nat):Int)=z:=by simpa using e2
     refine hz q ?_ e2;have:¬q=p:=by rintro rfl;exact e e2.symm
     simpa[ac]using⟨hq,this⟩
  rw[e1]at hM;refine⟨⟨hR.fr f2 (λi hi e=>h.d2 (e▸hi)),(h.pg.fr f1 h.d1).fr f2 h.d3,?_,?_,h.nd.filter _,?_,λx hx=>h.lt x ?_,h.hn,h.d1,h.d2,h.d3⟩,(f1.mono (λi q=>.inl q)).trans f2 (λi q=>.inl (.inr (.inr q)))⟩
  .have:tk.length-1=(ac tk p).length:=by omega
   rw[<-this];exact hM
  .rw[jg hnd hp,<-h.hg]
  .have:=h.tl
   rw[List.length_append];simp;omega
  .exact(List.mem_filter.1 hx).1
 clear h g hr2 hlen;generalize gp p=x at*;go_enter func215,ntmps215
 go_wp2_with(at_lookup;go_must(refine bB MIg HM.out HX.out rfl _ _ rfl (by rfl) (by rfl) HW.out ?_))
 refine HB.out.mono ?_;clear HB;rintro e w1⟨rfl,hR,f1⟩;have hg1:=HG.out.fr f1 HG.out.n1;have e7:=hg1.c7;have HM1:=Hd (HM.out.fr f1 HH.out.d2);have HR:=Hd hR;have HF1:=Hd f1;clear hR f1 hg1 HM
 go_wp2_with(at_delete;go_must(refine uK MIg HM1.out rfl _ _ rfl (by rfl) (by rfl) HW.out ?_);intro w2 hm2 f2;have K:=Hd (KEY.out w1 w2 HR.out HF1.out hm2 f2);clear hm2 f2)
 go_returns;exact⟨rfl,K.out⟩
end
end
section
def aV(out:Nat)(l:List Nat):List Nat:=if out<l.length then l.drop 1 else l
end
section
open Go.Maps Go.Proofs.Tryz Go.RowKit
section
variable{w w':World}{b gr gpb mb out:Nat}{tk sp:List Nat}{gp:Nat->Nat}{gh:List Nat}{FG:Nat->Prop}
theorem uh(h:GR w gr gpb mb out tk sp gp gh FG):Calls prog 173 #[.pointer (some ⟨gr,0,none⟩),.int .i64 0] w λe w'=>e=.returned (.int .i64 (ixI tk.head?))/\∃d,w.drewN d=w':=bi h.rr 0
theorem oG(h:GR w gr gpb mb out tk sp gp gh FG):Calls prog 173 #[.pointer (some ⟨gr,0,none⟩),.int .i64 1] w λe w'=>e=.returned (.int .i64 (ixI sp.head?))/\∃d,w.drewN d=w':=bi h.rr 1
theorem xn(h:GR w gr gpb mb out [] sp gp gh FG)(g:GH w b gr gpb mb out FG):Calls prog 218 #[.pointer (some ⟨b,5,none⟩)] w λe w'=>e=.returned (.int .i64 (-1))/\∃d,w.drewN d=w':=by
 have c5:=g.c5;have HF:=Hd (uh h);simp only[List.head?_nil,ixI]at HF;clear h g;go_enter func218,ntmps218
 go_wp2_with fail
 refine HF.out.mono ?_;clear HF;rintro e w1⟨rfl,d,rfl⟩;go_wp2;go_returns;exact⟨rfl,_,rfl⟩
theorem tj{p:Nat}(h:GR w gr gpb mb out (p::tk) sp gp gh FG)(g:GH w b gr gpb mb out FG):Calls prog 218 #[.pointer (some ⟨b,5,none⟩)] w λe w'=>e=.returned (.int .i64 p)/\GR w' gr gpb mb out (ac (p::tk) p) (sp++[p]) gp (ac gh (gp p)) FG/\Fr (FGm FG gpb mb) w w':=by
 have c5:=g.c5;have c6:=g.c6;have hp:p<out:=h.rr.row2.2.2.1 p (List.mem_cons_self ..);have hn:=h.hn;have cp:w.cell? ⟨gpb,p,none⟩=some (.int .u32 (gp p:Nat)):=h.pg.cell hp;have HF:=Hd (uh h);simp only[List.head?_cons,ixI]at HF
 have HY:Hid (∀d,Calls prog 215 #[.pointer (some ⟨b,5,none⟩),.int .u32 (gp p:Nat)] (w.drewN d) λe w'=>e=.returned (.bool true)/\GR w' gr gpb mb out (ac (p::tk) p) (sp++[p]) gp (ac gh (gp p)) FG/\Fr (FGm FG gpb mb) w w'):=by
  intro d;have f:Fr NoF w (w.drewN d):=(Fr.refl NoF w).drewN d;exact(la (h.fr f (λ_ _ q=>q) id id) (g.fr f id) (List.mem_cons_self ..)).mono λe w' ⟨he,h1,h2⟩=>⟨he,h1,(f.mono (λ_ q=>q.elim)).trans h2 (λ_ q=>.inl q)⟩
 clear h g;generalize gp p=x at*;go_enter func218,ntmps218
 go_wp2_with fail
 refine HF.out.mono ?_;clear HF;rintro e w1⟨rfl,d,rfl⟩
 go_wp2_with fail
 refine(HY.out d).mono ?_;rintro e w2⟨rfl,h2⟩;have H2:=Hd h2;clear h2 HY;go_wp2;go_returns;exact⟨rfl,H2.out⟩
theorem GR.laid(h:GR w gr gpb mb out tk sp gp gh FG){p x:Nat}(hp:p∈sp)(hx:aK x)(hm:¬x∈gh){w1 w2:World}(hR:RR w1 gr out 2 (cH [tk,sp] 0 p false) FG)(f1:Fr FG w w1)
  (hM:MpN prog 34 3 .u32 .i64 w2 mb (if(mOf tk gp (x:Int)).isSome then tk.length else tk.length+1) (bX (mOf tk gp) (x:Int) (some (p:Int))))(f2:Fr (λi=>i=mb) (w1.setCell ⟨gpb,p,none⟩ (.int .u32 (x:Nat))) w2):
  GR w2 gr gpb mb out (tk++[p]) (ac sp p) (upd gp p x) (gh++[x]) FG/\Fr (FGm FG gpb mb) w w2:=by
 have hr2:=h.rr.row2;have hpt:¬p∈tk:=λq=>hr2.2.2.2.2 p q hp
 rw[j8 hr2.2.2.2.2,ah hpt]at hR;have hmo:=lz (tk:=tk) (gp:=gp) (x:=x) (h.hg▸hm);rw[hmo]at hM
 have hmap:(tk++[p]).map (upd gp p x)=gh++[x]:=by
  rw[List.map_append,h.hg]
  congr 1
  .apply List.map_congr_left
   intro q hq;rw[aa];rintro rfl;exact hpt hq
  .simp[upd_same]
 have hnd:(gh++[x]).Nodup:=by
  rw[List.nodup_append];refine⟨h.nd,by simp,λy hy z hz e=>?_⟩;rw[List.mem_singleton.1 hz]at e;exact hm (e▸hy)
 have e1:bX (mOf tk gp) (x:Int) (some (p:Int))=mOf (tk++[p]) (upd gp p x):=by
  refine ol (by rw[hmap];exact hnd) ?_ ?_
  .intro q hq
   rcases List.mem_append.1 hq with hq1|hq1
   .have hqp:¬q=p:=λe=>hpt (e▸hq1)
    rw[aa _ _ hqp];have:¬((gp q:Nat):Int)=(x:Int):=λe=>hm (by rw[h.hg];exact List.mem_map.2 ⟨q,hq1,by omega⟩)
    rw[aE _ _ this];exact bV (h.hg▸h.nd) hq1
   .rw[List.mem_singleton.1 hq1,upd_same,ba]
  .intro z hz
   have hzx:¬z=(x:Int):=λe=>hz p (by simp) (by rw[upd_same,e])
   rw[aE _ _ hzx];unfold mOf;rw[Option.map_eq_none_iff,List.find?_eq_none];intro q hq e2;have e2:((gp q:Nat):Int)=z:=by simpa using e2
   have hqp:¬q=p:=by rintro rfl;exact hpt hq
   exact hz q (by simp[hq]) (by rw[aa _ _ hqp];exact e2)
 rw[e1]at hM;have fs:Fr (λi=>i=gpb) w1 (w1.setCell ⟨gpb,p,none⟩ (.int .u32 (x:Nat))):=(Fr.refl (λi=>i=gpb) w1).setCell (p:=⟨gpb,p,none⟩) (.inl rfl) _;refine⟨⟨(hR.fr fs (λi hi e=>h.d1 (e▸hi))).fr f2 (λi hi e=>h.d2 (e▸hi)),?_,?_,hmap.symm,hnd,?_,?_,h.hn,h.d1,h.d2,h.d3⟩,((f1.mono (λi q=>.inl q)).trans fs (λi q=>.inl (.inr (.inl q)))).trans f2 (λi q=>.inl (.inr (.inr q)))⟩
 .rw[<-lU]
  exact((h.pg.fr f1 h.d1).set _ _).fr f2 h.d3
 .rw[List.length_append];exact hM
 .have:=dW hr2.2.1 hp
  have:=h.tl;rw[List.length_append];simp;omega
 .intro y hy
  rcases List.mem_append.1 hy with q|q
  .exact h.lt y q
  .rw[List.mem_singleton.1 q];exact hx
def vU(w:World)(gr gpb mb out:Nat)(gh':List Nat)(FG:Nat->Prop)(w':World):Prop:=∃tk' sp' gp',GR w' gr gpb mb out tk' sp' gp' gh' FG/\Fr (FGm FG gpb mb) w w'
theorem mw(h:GR w gr gpb mb out [] [] gp gh FG)(g:GH w b gr gpb mb out FG){x:Nat}:Calls prog 214 #[.pointer (some ⟨b,5,none⟩),.int .u32 x] w λe w'=>e=.returned (.tuple #[])/\vU w gr gpb mb out (aV out (gh++[x])) FG w':=by
 have c5:=g.c5;have HF:=Hd (oG h);simp only[List.head?_nil,ixI]at HF
 have HY:Hid (∀d,Calls prog 218 #[.pointer (some ⟨b,5,none⟩)] (w.drewN d) λe w'=>e=.returned (.int .i64 (-1))/\∃d,w.drewN d=w'):=by
  intro d;have f:Fr NoF w (w.drewN d):=(Fr.refl NoF w).drewN d;exact(xn (h.fr f (λ_ _ q=>q) id id) (g.fr f id)).mono λe w' ⟨he,d',hw⟩=>⟨he,d+d',by rw[<-hw,World.drewN_drewN]⟩
 have R:Hid (∀d,vU w gr gpb mb out (aV out (gh++[x])) FG (w.drewN d)):=by
  intro d;have hgh:gh=[]:=h.hg;have ho:out=0:=by have:=h.tl;simpa using this.symm
  have:aV out (gh++[x])=gh:=by rw[hgh,ho];rfl
  rw[this];have f:Fr NoF w (w.drewN d):=(Fr.refl NoF w).drewN d;exact⟨_,_,_,h.fr f (λ_ _ q=>q) id id,f.mono (λ_ q=>q.elim)⟩
 clear h g;go_enter func214,ntmps214
 go_wp2_with fail
 refine HF.out.mono ?_;clear HF;rintro e w1⟨rfl,d,rfl⟩
 go_wp2_with fail
 refine(HY.out d).mono ?_;clear HY;rintro e w2⟨rfl,d2,rfl⟩;go_wp2;go_returns;exact⟨rfl,R.out _⟩
theorem km{p:Nat}(h:GR w gr gpb mb out tk (p::sp) gp gh FG)(g:GH w b gr gpb mb out FG){x:Nat}(hx:aK x)(hm:¬x∈gh):Calls prog 214 #[.pointer (some ⟨b,5,none⟩),.int .u32 x] w λe w'=>e=.returned (.tuple #[])/\vU w gr gpb mb out (aV out (gh++[x])) FG w':=by
 have c5:=g.c5;have c6:=g.c6;have hp:p<out:=h.rr.row2.2.2.2.1 p (List.mem_cons_self ..);have hn:=h.hn;have hlen:=h.tl;have HF:=Hd (oG h);simp only[List.head?_cons,ixI]at HF
 have HB:Hid (∀d,Calls prog 74 #[.pointer (some ⟨gr,0,none⟩),.int .i64 0,.int .i64 p] (w.drewN d) λe w'=>e=.returned (.bool true)/\RR w' gr out 2 (cH [tk,p::sp] 0 p false) FG/\Fr FG w w'):=by
  intro d;have f:Fr NoF w (w.drewN d):=(Fr.refl NoF w).drewN d;exact(aI (h.rr.fr f (λ_ _ q=>q)) 0 p (by omega) hp).mono λe w' ⟨he,h1,h2⟩=>⟨he,h1,(f.mono (λ_ q=>q.elim)).trans h2 (λ_ q=>.inl q)⟩
 have HH:=Hd h;have HG:=Hd g;have HX:=Hd hx;have HM:=Hd hm;have HW:=Hd hx.wf;clear h g hx hm;go_enter func214,ntmps214
 go_wp2_with fail
 refine HF.out.mono ?_;clear HF;rintro e w1⟨rfl,d,rfl⟩
 go_wp2_with fail
 refine(HB.out d).mono ?_;clear HB;rintro e w2⟨rfl,hR,f1⟩;have hg2:=HG.out.fr f1 HG.out.n1;have e6:=hg2.c6;have e7:=hg2.c7;have lb:=hg2.lb;have n2:=hg2.n2;have hpg:=HH.out.pg.fr f1 HH.out.d1;have cp:w2.cell? ⟨gpb,p,none⟩=some (.int .u32 (gp p:Nat)):=hpg.cell hp;have fp:=hpg.frozen p;have lg:=hpg.lt;have HM2:Hid (MpN prog 34 3 .u32 .i64 (w2.setCell ⟨gpb,p,none⟩ (.int .u32 x)) mb tk.length (mOf tk gp)):=(HH.out.mp.fr f1 HH.out.d2).fr ((Fr.refl (λi=>i=gpb) w2).setCell (p:=⟨gpb,p,none⟩) (.inl rfl) _) (λe=>HH.out.d3 e.symm);have HR:=Hd hR;have HF1:=Hd f1;have hc:tk.length<1000000:=by omega
 have HWp:Hid ((Lit.int .i64 (p:Int)).wf=true):=WalkArith.wf_i64 ⟨by omega,by omega⟩;generalize gp p=z at cp;clear hR f1 hg2 hpg
 go_wp2_with(at_mapUpdate;go_must(refine o3 MIg HM2.out hc rfl _ _ _ rfl (by rfl) (by rfl) (by rfl) HW.out HWp.out ?_);intro w3 hm3 f3;have K:=Hd (HH.out.laid (List.mem_cons_self ..) HX.out HM.out HR.out HF1.out hm3 f3);clear hm3 f3)
 go_returns;refine⟨rfl,?_⟩;have hl:gh.length=tk.length:=by rw[HH.out.hg,List.length_map]
 have:aV out (gh++[x])=gh++[x]:=by
  unfold aV;rw[if_neg];rw[List.length_append];simp at hlen⊢;omega
 rw[this];exact⟨_,_,_,K.out⟩
theorem mq{p:Nat}(h:GR w gr gpb mb out (p::tk) [] gp gh FG)(g:GH w b gr gpb mb out FG){x:Nat}(hx:aK x)(hm:¬x∈gh):Calls prog 214 #[.pointer (some ⟨b,5,none⟩),.int .u32 x] w λe w'=>e=.returned (.tuple #[])/\vU w gr gpb mb out (aV out (gh++[x])) FG w':=by
 have c5:=g.c5;have c6:=g.c6;have hp:p<out:=h.rr.row2.2.2.1 p (List.mem_cons_self ..);have hn:=h.hn;have hlen:=h.tl;have HF:=Hd (oG h);simp only[List.head?_nil,ixI]at HF
 have HY:Hid (∀d,Calls prog 218 #[.pointer (some ⟨b,5,none⟩)] (w.drewN d) λe w'=>e=.returned (.int .i64 p)/\GR w' gr gpb mb out (ac (p::tk) p) ([]++[p]) gp (ac gh (gp p)) FG/\Fr (FGm FG gpb mb) w w'):=by
  intro d;have f:Fr NoF w (w.drewN d):=(Fr.refl NoF w).drewN d;exact(tj (h.fr f (λ_ _ q=>q) id id) (g.fr f id)).mono λe w' ⟨he,h1,h2⟩=>⟨he,h1,(f.mono (λ_ q=>q.elim)).trans h2 (λ_ q=>.inl q)⟩
 have hgh:gh=gp p::tk.map gp:=h.hg;have hnd:=h.nd
 have hcut:aV out (gh++[x])=ac gh (gp p)++[x]:=by
  have hl:gh.length=out:=by rw[h.hg,List.length_map];simpa using h.tl
  unfold aV;rw[if_pos (by rw[List.length_append];simp;omega)];rw[hgh]at hnd⊢;have hn1:=List.nodup_cons.1 hnd
  have:ac (gp p::tk.map gp) (gp p)=tk.map gp:=by
   have e2:ac (gp p::tk.map gp) (gp p)=ac (tk.map gp) (gp p):=by simp[ac]
   rw[e2,ah hn1.1]
  rw[this];rfl
 have hm':¬x∈ac gh (gp p):=λq=>hm (List.mem_filter.1 q).1
 have HCUT:=Hd hcut;have HG:=Hd g;have HX:=Hd hx;have HM:=Hd hm';have HW:=Hd hx.wf;clear h g hx hm hgh hnd hcut hm';go_enter func214,ntmps214
 go_wp2_with fail
 refine HF.out.mono ?_;clear HF;rintro e w1⟨rfl,d,rfl⟩
 go_wp2_with fail
 refine(HY.out d).mono ?_;clear HY;rintro e wy⟨rfl,hy,fy⟩
 have hgy:=HG.out.fr fy (λq=>by
  rcases q with q|q|q
  .exact HG.out.n1 q
  .exact HG.out.n2 q
  .exact HG.out.n3 q)
 have y5:=hgy.c5;have HH:=Hd hy;have HGY:=Hd hgy;have HFY:=Hd fy;have HB:=Hd (aI hy.rr 0 p (by omega) hp);have hlen2:=hy.tl;clear hy fy hgy
 go_wp2_with fail
 refine HB.out.mono ?_;clear HB;rintro e w2⟨rfl,hR,f1⟩;have hg2:=HGY.out.fr f1 HG.out.n1;have e6:=hg2.c6;have e7:=hg2.c7;have lb:=hg2.lb;have n2:=hg2.n2;have hpg:=HH.out.pg.fr f1 HH.out.d1;have cp:w2.cell? ⟨gpb,p,none⟩=some (.int .u32 (gp p:Nat)):=hpg.cell hp;have fp:=hpg.frozen p;have lg:=hpg.lt;have HM2:Hid (MpN prog 34 3 .u32 .i64 (w2.setCell ⟨gpb,p,none⟩ (.int .u32 x)) mb (ac (p::tk) p).length (mOf (ac (p::tk) p) gp)):=(HH.out.mp.fr f1 HH.out.d2).fr ((Fr.refl (λi=>i=gpb) w2).setCell (p:=⟨gpb,p,none⟩) (.inl rfl) _) (λe=>HH.out.d3 e.symm);have HR:=Hd hR;have HF1:=Hd f1;have hc:(ac (p::tk) p).length<1000000:=by omega
 have HWp:Hid ((Lit.int .i64 (p:Int)).wf=true):=WalkArith.wf_i64 ⟨by omega,by omega⟩;generalize gp p=z at*;clear hR f1 hg2 hpg
 go_wp2_with(at_mapUpdate;go_must(refine o3 MIg HM2.out hc rfl _ _ _ rfl (by rfl) (by rfl) (by rfl) HW.out HWp.out ?_);intro w3 hm3 f3;have K:=Hd (HH.out.laid (by simp) HX.out HM.out HR.out HF1.out hm3 f3);clear hm3 f3)
 go_returns;refine⟨rfl,?_⟩;rw[HCUT.out];exact⟨_,_,_,K.out.1,HFY.out.trans K.out.2 (λ_ q=>.inl q)⟩
theorem oz(h:GR w gr gpb mb out tk sp gp gh FG)(g:GH w b gr gpb mb out FG){x:Nat}(hx:aK x)(hm:¬x∈gh):Calls prog 214 #[.pointer (some ⟨b,5,none⟩),.int .u32 x] w λe w'=>e=.returned (.tuple #[])/\vU w gr gpb mb out (aV out (gh++[x])) FG w':=by
 cases sp with
 |cons p sp=>exact km h g hx hm
 |nil=>
  cases tk with
  |nil=>exact mw h g
  |cons p tk=>exact mq h g hx hm
end
structure T6 where
 nw:List Nat
 mn:List Nat
 page:Nat->Nat
 ev:Nat->Bool
 gh:List Nat
structure TA where
 rb:Nat
 pb:Nat
 eb:Nat
 gr:Nat
 gpb:Nat
 mb:Nat
 FR:Nat->Prop
 FG:Nat->Prop
 lab:Nat->Nat
structure TL(b:Nat)(A:TA):Prop where
 l0:A.lab b=0
 l1:A.lab A.pb=1
 l2:A.lab A.eb=2
 l3:∀i,A.FR i->A.lab i=3
 l4:∀i,A.FG i->A.lab i=4
 l5:A.lab A.gpb=5
 l6:A.lab A.mb=6
def twH(A:TA)(n inn out sz:Nat):Nat->Value
 |0=>.int .i64 inn
 |1=>.pointer (some ⟨A.rb,0,none⟩)
 |2=>.slice (some ⟨A.pb,0,none⟩) n n
 |3=>.slice (some ⟨A.eb,0,none⟩) n n
 |4=>.int .i64 sz
 |5=>.pointer (some ⟨A.gr,0,none⟩)
 |6=>.slice (some ⟨A.gpb,0,none⟩) out out
 |7=>.map (some A.mb)
 |_=>.int .i64 0
theorem zm(A:TA)(n inn out s z:Nat):upd (twH A n inn out s) 4 (.int .i64 z)=twH A n inn out z:=by
 funext j
 match j with
 |0=>rfl
 |1=>rfl
 |2=>rfl
 |3=>rfl
 |4=>rfl
 |5=>rfl
 |6=>rfl
 |7=>rfl
 |j+8=>simp[upd,twH]
structure TC(w:World)(b n inn out:Nat)(A:TA)(t:T6)(tk sp:List Nat)(gp:Nat->Nat):Prop where
 hd:Blk w b 8 (twH A n inn out (cntL (t.nw++t.mn) t.ev))
 rr:RR w A.rb n 2 [t.nw,t.mn] A.FR
 pg:Blk w A.pb n (uN t.page)
 be:Blk w A.eb n (bF t.ev)
 gg:GR w A.gr A.gpb A.mb out tk sp gp t.gh A.FG
 lb:TL b A
 ou:∀f,t.ev f=true->f∈t.nw\/f∈t.mn
 hn:n<=65535
 hi:inn<=65535
def FT(A:TA)(b:Nat):Nat->Prop:=λi=>i=b\/i=A.pb\/i=A.eb\/A.FR i\/FGm A.FG A.gpb A.mb i
section
variable{w w':World}{b n inn out:Nat}{A:TA}{t:T6}{tk sp:List Nat}{gp:Nat->Nat}
theorem TC.fr(h:TC w b n inn out A t tk sp gp){G:Nat->Prop}(f:Fr G w w')(hG:∀i,FT A b i->¬G i):TC w' b n inn out A t tk sp gp:=
 ⟨h.hd.fr f (hG _ (.inl rfl)),h.rr.fr f (λi q=>hG i (.inr (.inr (.inr (.inl q))))),h.pg.fr f (hG _ (.inr (.inl rfl))),h.be.fr f (hG _ (.inr (.inr (.inl rfl)))),h.gg.fr f (λi q=>hG i (.inr (.inr (.inr (.inr (.inl q)))))) (hG _ (.inr (.inr (.inr (.inr (.inr (.inl rfl))))))) (hG _ (.inr (.inr (.inr (.inr (.inr (.inr rfl))))))),h.lb,h.ou,h.hn,h.hi⟩
theorem TC.fr0(h:TC w b n inn out A t tk sp gp)(f:Fr NoF w w'):TC w' b n inn out A t tk sp gp:=h.fr f (λ_ _ q=>q)
theorem TC.lt(h:TC w b n inn out A t tk sp gp):∀i,FT A b i->i<w.heap.size:=by
 rintro i(rfl|rfl|rfl|q|q|rfl|rfl)
 .exact h.hd.lt
 .exact h.pg.lt
 .exact h.be.lt
 .exact h.rr.lt i q
 .exact h.gg.rr.lt i q
 .exact h.gg.pg.lt
 .exact h.gg.mp.lt
theorem TC.c(h:TC w b n inn out A t tk sp gp)(i:Nat)(hi:i<8):w.cell? ⟨b,i,none⟩=some (twH A n inn out (cntL (t.nw++t.mn) t.ev) i):=h.hd.cell hi
theorem TC.cp(h:TC w b n inn out A t tk sp gp){f:Nat}(hf:f<n):w.cell? ⟨A.pb,f,none⟩=some (.int .u32 (t.page f:Nat)):=h.pg.cell hf
theorem TC.ce(h:TC w b n inn out A t tk sp gp){f:Nat}(hf:f<n):w.cell? ⟨A.eb,f,none⟩=some (.bool (t.ev f)):=h.be.cell hf
theorem TC.gH(h:TC w b n inn out A t tk sp gp):GH w b A.gr A.gpb A.mb out A.FG:=by
 refine⟨h.c 5 (by omega),h.c 6 (by omega),h.c 7 (by omega),h.hd.lt,λq=>?_,λq=>?_,λq=>?_⟩
 .have:=h.lb.l4 _ q;rw[h.lb.l0]at this;cases this
 .have:=h.lb.l5;rw[<-q,h.lb.l0]at this;cases this
 .have:=h.lb.l6;rw[<-q,h.lb.l0]at this;cases this
theorem TC.lists(h:TC w b n inn out A t tk sp gp):(t.nw++t.mn).Nodup/\(∀x∈t.nw,x<n)/\(∀x∈t.mn,x<n)/\(∀x∈t.nw,¬x∈t.mn)/\(t.nw++t.mn).length<=n:=by
 obtain⟨h1,h2,h3,h4,h5⟩:=h.rr.row2
 have hnd:(t.nw++t.mn).Nodup:=by
  rw[List.nodup_append];exact⟨h1,h2,λx hx y hy e=>h5 x hx (e▸hy)⟩
 refine⟨hnd,h3,h4,h5,?_⟩;have:=List.Nodup.length_le_of_subset (l₁:=t.nw++t.mn) (l₂:=List.range n) hnd (λy hy=>List.mem_range.2 ((List.mem_append.1 hy).elim (h3 y) (h4 y)));simpa using this
theorem Dj(a:Option Addr)(p:Int):Calls prog 206 #[.pointer a,.int .u32 p] w λe w'=>e=.returned (.tuple #[])/\w=w':=by
 go_enter func206,ntmps206;go_wp2;go_returns;exact⟨rfl,rfl⟩
theorem vu(h:TC w b n inn out A t tk sp gp):Calls prog 209 #[.pointer (some ⟨b,0,none⟩)] w λe w'=>e=.returned (.int .i64 (cntL (t.nw++t.mn) t.ev:Nat))/\w=w':=by
 have c4:w.cell? ⟨b,4,none⟩=some (.int .i64 (cntL (t.nw++t.mn) t.ev:Nat)):=h.c 4 (by omega);clear h;go_enter func209,ntmps209;go_wp2;go_returns;exact⟨rfl,rfl⟩
theorem ix2(l m:List Nat)(f:Nat):ixI (ixZ [l,m] (f:Int))=if f∈l then 0 else if f∈m then 1 else-1:=by
 rw[dA,jq]
 split
 .rfl
 .split<;>rfl
theorem yM(h:TC w b n inn out A t tk sp gp)(f:Nat):Calls prog 212 #[.pointer (some ⟨b,0,none⟩),.int .i64 f] w λe w'=>e=.returned (.bool (decide (f∈t.nw\/f∈t.mn)))/\w=w':=by
 have c1:w.cell? ⟨b,1,none⟩=some (.pointer (some ⟨A.rb,0,none⟩)):=h.c 1 (by omega);have HI:=fj h.rr f;rw[ix2]at HI;by_cases hm:f∈t.nw
 .rw[if_pos hm]at HI
  have H:=Hd HI;have HD:Hid (decide (f∈t.nw\/f∈t.mn)=true):=by simp[Hid,hm]
  rw[HD.out];clear HI hm HD h;go_enter func212,ntmps212
  go_wp2_with(go_at_call 112;refine H.out.mono ?_;rintro e w'⟨rfl,rfl⟩)
  go_returns;exact⟨rfl,rfl⟩
 .rw[if_neg hm]at HI
  by_cases hm2:f∈t.mn
  .rw[if_pos hm2]at HI
   have H:=Hd HI;have HD:Hid (decide (f∈t.nw\/f∈t.mn)=true):=by simp[Hid,hm2]
   rw[HD.out];clear HI hm HD h hm2;go_enter func212,ntmps212
   go_wp2_with(go_at_call 112;refine H.out.mono ?_;rintro e w'⟨rfl,rfl⟩)
   go_returns;exact⟨rfl,rfl⟩
  .rw[if_neg hm2]at HI
   have H:=Hd HI;have HD:Hid (decide (f∈t.nw\/f∈t.mn)=false):=by simp[Hid,hm,hm2]
   rw[HD.out];clear HI hm HD h hm2;go_enter func212,ntmps212
   go_wp2_with(go_at_call 112;refine H.out.mono ?_;rintro e w'⟨rfl,rfl⟩)
   go_returns;exact⟨rfl,rfl⟩
def T6.setE(t:T6)(f:Nat)(v:Bool):T6:=if f∈t.nw\/f∈t.mn then⟨t.nw,t.mn,t.page,upd t.ev f v,t.gh⟩else t
theorem TL.ne{b:Nat}{A:TA}(l:TL b A):(¬b=A.pb)/\(¬b=A.eb)/\(¬A.pb=A.eb)/\(¬A.FR b)/\(¬A.FR A.pb)/\(¬A.FR A.eb)/\(¬FGm A.FG A.gpb A.mb b)/\(¬FGm A.FG A.gpb A.mb A.pb)/\(¬FGm A.FG A.gpb A.mb A.eb)/\(∀i,A.FR i->¬FGm A.FG A.gpb A.mb i):=by
 have h0:=l.l0;have h1:=l.l1;have h2:=l.l2;have h5:=l.l5;have h6:=l.l6
 have hF:∀i,FGm A.FG A.gpb A.mb i->4<=A.lab i:=by
  rintro i(q|rfl|rfl)
  .rw[l.l4 i q];omega
  .omega
  .omega
 refine⟨λe=>?_,λe=>?_,λe=>?_,λe=>?_,λe=>?_,λe=>?_,λe=>?_,λe=>?_,λe=>?_,λi hi e=>?_⟩
 .rw[<-e]at h1;omega
 .rw[<-e]at h2;omega
 .rw[<-e]at h2;omega
 .have:=l.l3 _ e;omega
 .have:=l.l3 _ e;omega
 .have:=l.l3 _ e;omega
 .have:=hF _ e;omega
 .have:=hF _ e;omega
 .have:=hF _ e;omega
 .have:=hF _ e;have:=l.l3 _ hi;omega
theorem TC.setE(h:TC w b n inn out A t tk sp gp){f:Nat}(hm:f∈t.nw\/f∈t.mn)(v:Bool){z:Nat}(hz:z=cntL (t.nw++t.mn) (upd t.ev f v)):
  TC ((w.setCell ⟨A.eb,f,none⟩ (.bool v)).setCell ⟨b,4,none⟩ (.int .i64 z)) b n inn out A ⟨t.nw,t.mn,t.page,upd t.ev f v,t.gh⟩ tk sp gp:=by
 subst hz;obtain⟨n1,n2,n3,n4,n5,n6,n7,n8,n9,n10⟩:=h.lb.ne
 have f1:Fr (λi=>i=A.eb\/i=b) w ((w.setCell ⟨A.eb,f,none⟩ (.bool v)).setCell ⟨b,4,none⟩ (.int .i64 (cntL (t.nw++t.mn) (upd t.ev f v):Nat))):=
  ((Fr.refl (λi=>i=A.eb\/i=b) w).setCell (p:=⟨A.eb,f,none⟩) (.inl (.inl rfl)) _).setCell (p:=⟨b,4,none⟩) (.inl (.inr rfl)) _
 refine⟨?_,h.rr.fr f1 (λi hi q=>?_),h.pg.fr f1 (λq=>?_),?_,h.gg.fr f1 (λi hi q=>?_) (λq=>?_) (λq=>?_),h.lb,λg hg=>?_,h.hn,h.hi⟩
 .rw[<-zm A n inn out (cntL (t.nw++t.mn) t.ev)]
  exact(h.hd.other n2 _).set _ _
 .rcases q with rfl|rfl
  .exact n6 hi
  .exact n4 hi
 .rcases q with q|q
  .exact n3 q
  .exact n1 q.symm
 .rw[<-sS]
  exact(h.be.set _ _).other (λe=>n2 e.symm) _
 .rcases q with rfl|rfl
  .exact n9 (.inl hi)
  .exact n7 (.inl hi)
 .rcases q with q|q
  .exact n9 (.inr (.inl q.symm))
  .exact n7 (.inr (.inl q.symm))
 .rcases q with q|q
  .exact n9 (.inr (.inr q.symm))
  .exact n7 (.inr (.inr q.symm))
 .by_cases e:g=f
  .rw[e];exact hm
  .have hg:upd t.ev f v g=true:=hg
   rw[aa _ _ e]at hg;exact h.ou g hg
theorem AI(h:TC w b n inn out A t tk sp gp)(f:Nat)(hf:f<n)(v:Bool):
  Calls prog 208 #[.pointer (some ⟨b,0,none⟩),.int .i64 f,.bool v] w λe w'=>e=.returned (.tuple #[])/\TC w' b n inn out A (t.setE f v) tk sp gp/\Fr (λi=>i=A.eb\/i=b) w w':=by
 have HH:=yM h f;have hn:=h.hn;have hcl:=ju (t.nw++t.mn) t.ev;obtain⟨hnd,_,_,_,hln⟩:=h.lists;by_cases hm:f∈t.nw\/f∈t.mn
 .have c3:w.cell? ⟨b,3,none⟩=some (.slice (some ⟨A.eb,0,none⟩) n n):=h.c 3 (by omega)
  have c4:w.cell? ⟨b,4,none⟩=some (.int .i64 (cntL (t.nw++t.mn) t.ev:Nat)):=h.c 4 (by omega);have ce:=h.ce hf;have fe:∀i,w.frozen? ⟨A.eb,i,none⟩=false:=λi=>h.be.frozen i
  have fb:w.frozen? ⟨b,4,none⟩=false:=h.hd.frozen 4;have le:=h.be.lt;have lb:=h.hd.lt;have hd1:=h.lb.ne.2.1;have hd1':¬A.eb=b:=λe=>hd1 e.symm
  have hcu:=pm hnd t.ev f v (List.mem_append.2 hm);have HC:=Hd (λ(z:Nat) (hz:z=cntL (t.nw++t.mn) (upd t.ev f v))=>h.setE hm v hz);rw[show decide (f∈t.nw\/f∈t.mn)=true from by simp[hm]]at HH;have H:=Hd HH;have HS:Hid (t.setE f v=⟨t.nw,t.mn,t.page,upd t.ev f v,t.gh⟩):=by unfold Hid T6.setE;rw[if_pos hm]
  have HU:Hid (t.ev f=v->(⟨t.nw,t.mn,t.page,upd t.ev f v,t.gh⟩:T6)=t):=by
   intro e
   have:upd t.ev f v=t.ev:=by
    funext j;unfold upd;split
    .subst j;exact e.symm
    .rfl
   rw[this]
  have HLR:=Hd h
  have hfr:∀z,Fr (λi=>i=A.eb\/i=b) w ((w.setCell ⟨A.eb,f,none⟩ (.bool v)).setCell ⟨b,4,none⟩ (.int .i64 z)):=λz=>
   ((Fr.refl (λi=>i=A.eb\/i=b) w).setCell (p:=⟨A.eb,f,none⟩) (.inl (.inl rfl)) _).setCell (p:=⟨b,4,none⟩) (.inl (.inr rfl)) _
  have HFR:=Hd hfr;clear h HH hm hfr hnd;rw[HS.out];clear HS;generalize cntL (t.nw++t.mn) (upd t.ev f v)=z1 at*;generalize cntL (t.nw++t.mn) t.ev=z0 at*;generalize(t.nw++t.mn).length=zl at*;generalize hev:t.ev f=x at*;have HE:=Hd hev;clear hev
  cases x<;>cases v
  .have hu:=HU.out rfl
   rw[hu];clear hu HU hcu;go_enter func208,ntmps208
   go_wp2_with(go_at_call 212;refine H.out.mono ?_;rintro e w'⟨rfl,rfl⟩)
   go_returns;exact⟨rfl,HLR.out,Fr.refl _ _⟩
  .simp at hcu
   have HCU:=Hd hcu;clear hcu;go_enter func208,ntmps208
   go_wp2_with(go_at_call 212;refine H.out.mono ?_;rintro e w'⟨rfl,rfl⟩)
   go_returns;have e1:((z0:Int)+1)=((z0+1:Nat):Int):=by omega
   rw[e1];exact⟨rfl,HC.out _ (by have:=HCU.out;omega),HFR.out _⟩
  .simp at hcu
   have h1:1<=(z0:Int):=by omega
   have HCU:=Hd hcu;clear hcu;go_enter func208,ntmps208
   go_wp2_with(go_at_call 212;refine H.out.mono ?_;rintro e w'⟨rfl,rfl⟩)
   go_returns;have e1:((z0:Int)-1)=((z0-1:Nat):Int):=by omega
   rw[e1];exact⟨rfl,HC.out _ (by have:=HCU.out;omega),HFR.out _⟩
  .have hu:=HU.out rfl
   rw[hu];clear hu HU hcu;go_enter func208,ntmps208
   go_wp2_with(go_at_call 212;refine H.out.mono ?_;rintro e w'⟨rfl,rfl⟩)
   go_returns;exact⟨rfl,HLR.out,Fr.refl _ _⟩
 .rw[show decide (f∈t.nw\/f∈t.mn)=false from by simpa using hm]at HH
  have H:=Hd HH;rw[show t.setE f v=t from if_neg hm];have HLR:=Hd h;clear h HH hm hcl hln hnd;go_enter func208,ntmps208
  go_wp2_with(go_at_call 212;refine H.out.mono ?_;rintro e w'⟨rfl,rfl⟩)
  go_returns;exact⟨rfl,HLR.out,Fr.refl _ _⟩
def T6.rem(t:T6)(f:Nat):T6:=if f∈t.nw\/f∈t.mn then⟨ac t.nw f,ac t.mn f,t.page,upd t.ev f false,t.gh⟩else t
theorem jy(h:TC w b n inn out A t tk sp gp)(f:Nat)(hf:f<n):
  Calls prog 207 #[.pointer (some ⟨b,0,none⟩),.int .i64 f] w λe w'=>e=.returned (.tuple #[])/\TC w' b n inn out A (t.rem f) tk sp gp/\Fr (FT A b) w w':=by
 have HH:=yM h f;by_cases hm:f∈t.nw\/f∈t.mn
 .rw[show decide (f∈t.nw\/f∈t.mn)=true from by simp[hm]]at HH
  have H:=Hd HH;have HS:=Hd (AI h f hf false);have HM:=Hd hm;have HL:=Hd h.lists;clear HH hm h;go_enter func207,ntmps207
  go_wp2_with(go_at_call 212;refine H.out.mono ?_;rintro e w'⟨rfl,rfl⟩)
  refine HS.out.mono ?_;clear HS;rintro e w1⟨rfl,hc1,f1⟩;rw[show t.setE f false=⟨t.nw,t.mn,t.page,upd t.ev f false,t.gh⟩from if_pos HM.out]at hc1;have c1:w1.cell? ⟨b,1,none⟩=some (.pointer (some ⟨A.rb,0,none⟩)):=hc1.c 1 (by omega);have HO:=Hd (jX hc1.rr f);have HC1:=Hd hc1;have HF:=Hd f1;clear hc1 f1
  go_wp2_with fail
  refine HO.out.mono ?_;clear HO;rintro e w2⟨rfl,hR,f2⟩
  have key:TC w2 b n inn out A (t.rem f) tk sp gp:=by
   have hc:=HC1.out;obtain⟨n1,n2,n3,n4,n5,n6,n7,n8,n9,n10⟩:=hc.lb.ne;obtain⟨hnd,h3,h4,h5,_⟩:=HL.out
   have hR':RR w2 A.rb n 2 [ac t.nw f,ac t.mn f] A.FR:=by
    have:lT [t.nw,t.mn] (f:Int)=[ac t.nw f,ac t.mn f]:=by rw[lT,if_pos (by omega)];exact mK h5 f
    rw[this]at hR;exact hR
   rw[show t.rem f=⟨ac t.nw f,ac t.mn f,t.page,upd t.ev f false,t.gh⟩from if_pos HM.out];refine⟨?_,hR',hc.pg.fr f2 n5,hc.be.fr f2 n6,hc.gg.fr f2 (λi hi q=>n10 i q (.inl hi)) (λq=>n10 _ q (.inr (.inl rfl))) (λq=>n10 _ q (.inr (.inr rfl))),hc.lb,λg hg=>?_,hc.hn,hc.hi⟩
   .have h1:=dU hnd (upd t.ev f false) f
    rw[if_neg (by rw[upd_same];simp)]at h1;have h2:aP (t.nw++t.mn) f=ac t.nw f++ac t.mn f:=by unfold aP ac;rw[List.filter_append]
    rw[h2]at h1
    show Blk w2 b 8 (twH A n inn out (cntL (ac t.nw f++ac t.mn f) (upd t.ev f false)))
    rw[show cntL (ac t.nw f++ac t.mn f) (upd t.ev f false)=cntL (t.nw++t.mn) (upd t.ev f false)from by omega];exact hc.hd.fr f2 n4
   .have hg':upd t.ev f false g=true:=hg
    have hgf:¬g=f:=by rintro rfl;rw[upd_same]at hg';cases hg'
    rcases hc.ou g hg with q|q
    .exact .inl (by simpa[ac]using⟨q,hgf⟩)
    .exact .inr (by simpa[ac]using⟨q,hgf⟩)
  have hfr:Fr (FT A b) w w2:=(HF.out.mono (λi q=>q.elim (λq=>.inr (.inr (.inl q))) (λq=>.inl q))).trans f2 (λi q=>.inl (.inr (.inr (.inr (.inl q)))));have KEY:=Hd (And.intro key hfr);clear hR f2 key hfr;go_wp2;go_returns;exact⟨rfl,KEY.out⟩
 .rw[show decide (f∈t.nw\/f∈t.mn)=false from by simpa using hm]at HH
  have H:=Hd HH;rw[show t.rem f=t from if_neg hm];have HLR:=Hd h;clear h HH hm;go_enter func207,ntmps207
  go_wp2_with(go_at_call 212;refine H.out.mono ?_;rintro e w'⟨rfl,rfl⟩)
  go_returns;exact⟨rfl,HLR.out,Fr.refl _ _⟩
end
end
end Go.Proofs.YtoenclhimbpfeaaGreatDoor
