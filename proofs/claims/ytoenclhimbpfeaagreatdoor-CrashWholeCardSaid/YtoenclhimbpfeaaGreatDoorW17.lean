/- Part 17. -/
import Derived.Test.YtoenclhimbpfeaaGreatDoorW16
import Derived.Deep.RegionLaw
namespace Go.Proofs.YtoenclhimbpfeaaGreatDoor
set_option linter.all false
set_option maxHeartbeats 16000000
set_option maxRecDepth 100000
section
open Go.Maps Go.Proofs.Tryz Go.RowKit
def T7.acc(t:T7)(f id:Nat):T7:=if f∈t.nw\/f∈t.mn then⟨ac t.nw f,ac t.mn f++[f],t.page,t.ev,t.b1,t.b2,t.goal⟩else if id∈t.b1++t.b2 then⟨t.nw,t.mn++[f],upd t.page f id,t.ev,ac t.b1 id,ac t.b2 id,t.goal⟩else⟨t.nw++[f],t.mn,upd t.page f id,t.ev,t.b1,t.b2,t.goal⟩
section
variable{w w':World}{b n:Nat}{A:TA}{t:T7}{k1 k2 sp:List Nat}{gp:Nat->Nat}
theorem v8{l m:List Nat}(hn:(l++m).Nodup)(ev:Nat->Bool){f:Nat}(hm:f∈l\/f∈m):cntL (ac l f++(ac m f++[f])) ev=cntL (l++m) ev:=by
 have:=lh hn ev f (λ_=>List.mem_append.2 hm);rw[<-this,<-List.append_assoc];have e:eS (l++m) f=ac l f++ac m f++[f]:=by unfold eS aP ac;rw[List.filter_append]
 rw[e]
theorem AC.laid(h:AC w b n A t k1 k2 sp gp){f id:Nat}(hf:f<n){b1 b2:List Nat}{k1' k2' sp':List Nat}{gp':Nat->Nat}{w1 w2:World}(hg:GA w1 A.gr A.gpb A.mb (n+1) k1' k2' sp' gp' b1 b2 A.FG)(f1:Fr (FGm A.FG A.gpb A.mb) w w1)(hb:b1.length+b2.length<=n){nw' mn':List Nat}
  (hR:RR w2 A.rb n 2 [nw',mn'] A.FR)(f2:Fr A.FR (w1.setCell ⟨A.pb,f,none⟩ (.int .u32 id)) w2)(hc:cntL (nw'++mn') t.ev=cntL (t.nw++t.mn) t.ev)(hou:∀x,x∈t.nw\/x∈t.mn->x∈nw'\/x∈mn'):
  AC w2 b n A ⟨nw',mn',upd t.page f id,t.ev,b1,b2,t.goal⟩ k1' k2' sp' gp'/\Fr (FT A b) w w2:=by
 obtain⟨n1,n2,n3,n4,n5,n6,n7,n8,n9,n10⟩:=h.lb.ne;have fs:Fr (λi=>i=A.pb) w1 (w1.setCell ⟨A.pb,f,none⟩ (.int .u32 id)):=(Fr.refl (λi=>i=A.pb) w1).setCell (p:=⟨A.pb,f,none⟩) (.inl rfl) _;refine⟨⟨?_,hR,?_,((h.be.fr f1 n9).fr fs (λe=>n3 e.symm)).fr f2 n6,(hg.fr fs (λi hi e=>n8 (e▸.inl hi)) (λe=>n8 (.inr (.inl e.symm))) (λe=>n8 (.inr (.inr e.symm)))).fr f2 (λi hi q=>n10 i q (.inl hi)) (λq=>n10 _ q (.inr (.inl rfl))) (λq=>n10 _ q (.inr (.inr rfl))),h.lb,λx hx=>hou x (h.ou x hx),h.hn,h.hi,hb⟩,?_⟩
 .show Blk w2 b 8 (twH A n t.goal (n+1) (cntL (nw'++mn') t.ev))
  rw[hc];exact((h.hd.fr f1 n7).fr fs n1).fr f2 n4
 .rw[<-lU]
  exact((h.pg.fr f1 n8).set _ _).fr f2 n5
 .refine((f1.mono (λi q=>?_)).trans fs (λi q=>.inl (.inr (.inl q)))).trans f2 (λi q=>.inl (.inr (.inr (.inr (.inl q)))))
  exact .inr (.inr (.inr (.inr q)))
theorem Af(b1 b2:List Nat)(x:Nat):(ac b1 x).length+(ac b2 x).length<=b1.length+b2.length:=by
 have h1:=List.length_filter_le (λy=>!decide (y=x)) b1;have h2:=List.length_filter_le (λy=>!decide (y=x)) b2;unfold ac;omega
theorem nX(h:AC w b n A t k1 k2 sp gp){f id:Nat}(hf:f<n)(hm:f∈t.nw\/f∈t.mn):
  Calls prog 219 #[.pointer (some ⟨b,0,none⟩),.int .i64 f,.int .u32 id] w λe w'=>e=.returned (.tuple #[])/\(∃k1' k2' sp' gp',AC w' b n A (t.acc f id) k1' k2' sp' gp')/\Fr (FT A b) w w':=by
 have c1:w.cell? ⟨b,1,none⟩=some (.pointer (some ⟨A.rb,0,none⟩)):=h.c 1 (by omega);have c2:w.cell? ⟨b,2,none⟩=some (.slice (some ⟨A.pb,0,none⟩) n n):=h.c 2 (by omega);have hn:=h.hn;have HH:=kT h f;rw[show decide (f∈t.nw\/f∈t.mn)=true from by simp[hm]]at HH;have H:=Hd HH;have HB:=Hd (aI h.rr 1 f (by omega) hf)
 have KEY:Hid (∀w2,RR w2 A.rb n 2 (cH [t.nw,t.mn] 1 f false) A.FR->Fr A.FR w w2->(∃k1' k2' sp' gp',AC w2 b n A (t.acc f id) k1' k2' sp' gp')/\Fr (FT A b) w w2):=by
  intro w2 hR f2;obtain⟨n1,n2,n3,n4,n5,n6,n7,n8,n9,n10⟩:=h.lb.ne;have hl:=h.lists;rw[dz hl.2.2.2.1]at hR;rw[show t.acc f id=⟨ac t.nw f,ac t.mn f++[f],t.page,t.ev,t.b1,t.b2,t.goal⟩from if_pos hm];refine⟨⟨k1,k2,sp,gp,⟨?_,hR,h.pg.fr f2 n5,h.be.fr f2 n6,h.gg.fr f2 (λi hi q=>n10 i q (.inl hi)) (λq=>n10 _ q (.inr (.inl rfl))) (λq=>n10 _ q (.inr (.inr rfl))),h.lb,λx hx=>?_,h.hn,h.hi,h.hb⟩⟩,f2.mono (λi q=>.inr (.inr (.inr (.inl q))))⟩
  .show Blk w2 b 8 (twH A n t.goal (n+1) (cntL (ac t.nw f++(ac t.mn f++[f])) t.ev))
   rw[v8 hl.1 t.ev hm];exact h.hd.fr f2 n4
  .show x∈ac t.nw f\/x∈ac t.mn f++[f]
   by_cases e:x=f
   .right;simp[e]
   .rcases h.ou x hx with q|q
    .exact .inl (List.mem_filter.2 ⟨q,by simpa using e⟩)
    .exact .inr (List.mem_append.2 (.inl (List.mem_filter.2 ⟨q,by simpa using e⟩)))
 clear h HH hm;go_enter func219,ntmps219
 go_wp2_with(go_at_call 227;refine H.out.mono ?_;rintro e w'⟨rfl,rfl⟩)
 refine HB.out.mono ?_;clear HB H;rintro e w2⟨rfl,hR,f2⟩;have K:=Hd (KEY.out w2 hR f2);clear hR f2;go_wp2;go_returns;exact⟨rfl,K.out⟩
theorem mm(h:AC w b n A t k1 k2 sp gp){f id:Nat}(hf:f<n)(hm:¬(f∈t.nw\/f∈t.mn))(hid:id∈t.b1++t.b2):
  Calls prog 219 #[.pointer (some ⟨b,0,none⟩),.int .i64 f,.int .u32 id] w λe w'=>e=.returned (.tuple #[])/\(∃k1' k2' sp' gp',AC w' b n A (t.acc f id) k1' k2' sp' gp')/\Fr (FT A b) w w':=by
 obtain⟨p,hp,rfl⟩:=h.gg.mem hid;have c2:w.cell? ⟨b,2,none⟩=some (.slice (some ⟨A.pb,0,none⟩) n n):=h.c 2 (by omega);have hn:=h.hn;have HHA:=kT h f;rw[show decide (f∈t.nw\/f∈t.mn)=false from by simpa using hm]at HHA;have H:=Hd HHA;have HE:Hid (t.acc f (gp p)=⟨t.nw,t.mn++[f],upd t.page f (gp p),t.ev,ac t.b1 (gp p),ac t.b2 (gp p),t.goal⟩):=by unfold Hid T7.acc;rw[if_neg hm,if_pos hid]
 have HFG:=Hd (gP h.gg h.gH hp);have HH:=Hd h;have HM:=Hd hm;clear h hm hid HHA hp;generalize gp p=x at*;go_enter func219,ntmps219
 go_wp2_with(go_at_call 227;refine H.out.mono ?_;rintro e w'⟨rfl,rfl⟩)
 refine HFG.out.mono ?_;clear HFG H;rintro e w1⟨rfl,hg,f1⟩;obtain⟨n1,n2,n3,n4,n5,n6,n7,n8,n9,n10⟩:=HH.out.lb.ne;have hh1:=HH.out.hd.fr f1 n7;have d1:w1.cell? ⟨b,1,none⟩=some (.pointer (some ⟨A.rb,0,none⟩)):=hh1.cell (by omega);have d2:w1.cell? ⟨b,2,none⟩=some (.slice (some ⟨A.pb,0,none⟩) n n):=hh1.cell (by omega);have hpg:=HH.out.pg.fr f1 n8;have cp:w1.cell? ⟨A.pb,f,none⟩=some (.int .u32 (t.page f:Nat)):=hpg.cell hf;have fp:=hpg.frozen f;have lb:=hh1.lt;have lp:=hpg.lt;have fs:Fr (λi=>i=A.pb) w1 (w1.setCell ⟨A.pb,f,none⟩ (.int .u32 x)):=(Fr.refl (λi=>i=A.pb) w1).setCell (p:=⟨A.pb,f,none⟩) (.inl rfl) _;have HB:=Hd (aI ((HH.out.rr.fr f1 (λi q e=>n10 i q e)).fr fs (λi hi e=>n5 (e▸hi))) 1 f (by omega) hf);have HG:=Hd hg;have HF1:=Hd f1;generalize t.page f=z at cp;clear hg f1 hh1 hpg fs n2 n3 n4 n5 n6 n7 n8 n9 n10
 go_wp2_with fail
 refine HB.out.mono ?_;clear HB;rintro e w2⟨rfl,hR,f2⟩
 have key:AC w2 b n A ⟨t.nw,t.mn++[f],upd t.page f x,t.ev,ac t.b1 x,ac t.b2 x,t.goal⟩ (ac k1 p) (ac k2 p) (sp++[p]) gp/\Fr (FT A b) w w2:=by
  have hl:=HH.out.lists;rw[dz hl.2.2.2.1,ah (λq=>HM.out (.inl q)),ah (λq=>HM.out (.inr q))]at hR;refine HH.out.laid hf HG.out HF1.out (Nat.le_trans (Af _ _ _) HH.out.hb) hR f2 ?_ (λy hy=>hy.imp (λq=>q) (λq=>List.mem_append.2 (.inl q)));rw[<-List.append_assoc];exact iQ _ _ _ (by cases e:t.ev f with|false=>rfl|true=>exact(HM.out (HH.out.ou f e)).elim)
 have KEY:=Hd key;clear hR f2 key;go_wp2;go_returns;exact⟨rfl,⟨_,_,_,_,by rw[HE.out];exact KEY.out.1⟩,KEY.out.2⟩
theorem l8(h:AC w b n A t k1 k2 sp gp){f id:Nat}(hf:f<n)(hm:¬(f∈t.nw\/f∈t.mn))(hu:aK id)(hid:¬id∈t.b1++t.b2):
  Calls prog 219 #[.pointer (some ⟨b,0,none⟩),.int .i64 f,.int .u32 id] w λe w'=>e=.returned (.tuple #[])/\(∃k1' k2' sp' gp',AC w' b n A (t.acc f id) k1' k2' sp' gp')/\Fr (FT A b) w w':=by
 have HHA:=kT h f;rw[show decide (f∈t.nw\/f∈t.mn)=false from by simpa using hm]at HHA;have H:=Hd HHA;have HE:Hid (t.acc f id=⟨t.nw++[f],t.mn,upd t.page f id,t.ev,t.b1,t.b2,t.goal⟩):=by unfold Hid T7.acc;rw[if_neg hm,if_neg hid]
 have HFG:=Hd (im h.gg h.gH hu hid);have hn:=h.hn;have HH:=Hd h;have HM:=Hd hm;obtain⟨n1,n2,n3,n4,n5,n6,n7,n8,n9,n10⟩:=HH.out.lb.ne;have c1:w.cell? ⟨b,1,none⟩=some (.pointer (some ⟨A.rb,0,none⟩)):=h.c 1 (by omega);have c2:w.cell? ⟨b,2,none⟩=some (.slice (some ⟨A.pb,0,none⟩) n n):=h.c 2 (by omega);have cp:=h.cp hf;have fp:=h.pg.frozen f;have lb:=h.hd.lt;have lp:=h.pg.lt;have fs:Fr (λi=>i=A.pb) w (w.setCell ⟨A.pb,f,none⟩ (.int .u32 id)):=(Fr.refl (λi=>i=A.pb) w).setCell (p:=⟨A.pb,f,none⟩) (.inl rfl) _;have HB:=Hd (aI (h.rr.fr fs (λi hi e=>n5 (e▸hi))) 0 f (by omega) hf);generalize t.page f=z at cp;clear h hm hid hu fs n2 n3 n4 n5 n6 n7 n8 n9 n10 HHA;go_enter func219,ntmps219
 go_wp2_with(first
  |(go_at_call 227;refine H.out.mono ?_;rintro e w'⟨rfl,rfl⟩)
  |(go_at_call 228;refine HFG.out.mono ?_;rintro e w'⟨rfl,rfl⟩))
 refine HB.out.mono ?_;clear HB HFG H;rintro e w2⟨rfl,hR,f2⟩
 have key:AC w2 b n A ⟨t.nw++[f],t.mn,upd t.page f id,t.ev,t.b1,t.b2,t.goal⟩ k1 k2 sp gp/\Fr (FT A b) w w2:=by
  have hl:=HH.out.lists;rw[j8 hl.2.2.2.1,ah (λq=>HM.out (.inl q)),ah (λq=>HM.out (.inr q))]at hR;refine HH.out.laid hf HH.out.gg (Fr.refl _ _) HH.out.hb hR f2 ?_ (λy hy=>hy.imp (λq=>List.mem_append.2 (.inl q)) (λq=>q));have e0:t.ev f=false:=by cases e:t.ev f with|false=>rfl|true=>exact(HM.out (HH.out.ou f e)).elim
  rw[bE (t.nw++[f]),iQ _ _ _ e0,<-bE]
 have KEY:=Hd key;clear hR f2 key;go_wp2;go_returns;exact⟨rfl,⟨_,_,_,_,by rw[HE.out];exact KEY.out.1⟩,KEY.out.2⟩
theorem xS(h:AC w b n A t k1 k2 sp gp){f id:Nat}(hf:f<n)(hu:aK id):
  Calls prog 219 #[.pointer (some ⟨b,0,none⟩),.int .i64 f,.int .u32 id] w λe w'=>e=.returned (.tuple #[])/\(∃k1' k2' sp' gp',AC w' b n A (t.acc f id) k1' k2' sp' gp')/\Fr (FT A b) w w':=by
 by_cases hm:f∈t.nw\/f∈t.mn
 .exact nX h hf hm
 .by_cases hid:id∈t.b1++t.b2
  .exact mm h hf hm hid
  .exact l8 h hf hm hu hid
theorem mQ(h:AC w b n A t k1 k2 sp gp)(k:Int){l:List Nat}(hl:bZ [t.nw,t.mn] k=l):
  Calls prog 236 #[.pointer (some ⟨b,0,none⟩),.int .i64 k] w λe w'=>e=.returned (.int .i64 (ixI (l.find? t.ev)))/\∃d,w.drewN d=w':=by
 obtain⟨j,hj,hfj,hbj,hej⟩:=vP l t.ev;have hln:=(dg h.rr k).1;rw[hl]at hln;have hn:=h.hn
 have hln2:∀x∈l,x<n:=by
  intro x hx;have hL:=h.lists;rw[<-hl]at hx;unfold bZ at hx
  split at hx
  .rename_i hk
   obtain⟨kk,rfl⟩:=Int.eq_ofNat_of_zero_le hk;rw[show((kk:Nat):Int).toNat=kk from by omega]at hx
   match kk,hx with
   |0,hx=>exact hL.2.1 x hx
   |1,hx=>exact hL.2.2.1 x hx
   |kk+2,hx=>simp at hx
  .cases hx
 have HFI:=bi h.rr k;rw[hl,List.head?_eq_getElem?]at HFI;have HF1:=Hd HFI
 have HNX:Hid (∀(i x:Nat) (d:Nat),l[i]?=some x->Calls prog 174 #[.pointer (some ⟨A.rb,0,none⟩),.int .i64 x] (w.drewN d) λe w'=>e=.returned (.int .i64 (ixI l[i+1]?))/\w.drewN d=w'):=by
  intro i x d hi;have hR:=h.rr.fr ((Fr.refl NoF w).drewN d) (λ_ _ q=>q);have:=(dg hR k).2 i x (by rw[hl];exact hi);rw[hl]at this;rw[<-this];exact ii hR x
 have c1:w.cell? ⟨b,1,none⟩=some (.pointer (some ⟨A.rb,0,none⟩)):=h.c 1 (by omega);have c3:w.cell? ⟨b,3,none⟩=some (.slice (some ⟨A.eb,0,none⟩) n n):=h.c 3 (by omega)
 have HCE:Hid (∀(i x:Nat),l[i]?=some x->x<n/\w.cell? ⟨A.eb,x,none⟩=some (.bool (t.ev x))):=λi x hx=>by
  have hxn:=hln2 x (List.mem_of_getElem? hx);exact⟨hxn,h.ce hxn⟩
 have HB:=Hd hbj;have HE:=Hd hej;have HFJ:=Hd hfj;clear h HFI hbj hej hfj hl hln2;go_enter func236,ntmps236
 go_wp2_with(go_at_call 173;refine HF1.out.mono ?_;rintro e w'⟨rfl,d,rfl⟩)
 clear HF1
 go_loopg [5] j (λg i wr=>∃k:Nat,k<=j/\g=j-k/\i=.int .i64 (ixI l[k]?)/\∃d,w.drewN d=wr)
 case atStart=>exact⟨0,Nat.zero_le _,by omega,rfl,d,rfl⟩
 case round=>
  obtain⟨k,hk,rfl,rfl,d,rfl⟩:=hrel;by_cases hkj:k<j
  .have hkl:k<l.length:=by omega
   obtain⟨hxn,hce⟩:=HCE.out k l[k] (List.getElem?_eq_getElem hkl);rw[HB.out k l[k] hkj (List.getElem?_eq_getElem hkl)]at hce;have HN:=Hd (HNX.out k l[k] d (List.getElem?_eq_getElem hkl));rw[show ixI l[k]?=(l[k]:Nat)from by simp[ixI,hkl]];generalize l[k]=x at*
   go_wp2_with(go_at_call 174;refine HN.out.mono ?_;rintro e w'⟨rfl,rfl⟩)
   go_roundg (j-(k+1))
   case measure=>omega
   case rel=>exact⟨k+1,by omega,rfl,rfl,d,rfl⟩
  .obtain rfl:k=j:=by omega
   cases e:l[k]? with
   |none=>
    have HR:Hid (l.find? t.ev=none):=HFJ.out.trans e;rw[show ixI (none:Option Nat)= -1 from rfl];clear e;go_wp2;go_returns;exact⟨by rw[HR.out];rfl,_,rfl⟩
   |some x=>
    obtain⟨hxn,hce⟩:=HCE.out k x e;rw[HE.out x e]at hce;have HR:Hid (l.find? t.ev=some x):=HFJ.out.trans e;rw[show ixI (some x)=(x:Int)from rfl];clear e;go_wp2;go_returns;exact⟨by rw[HR.out];rfl,_,rfl⟩
end
def stp(a b:Nat):Nat:=max 1 (b/a)
def T7.miss(n:Nat)(t:T7)(id:Nat):T7:=
 if id∈t.b1 then⟨t.nw,t.mn,t.page,t.ev,t.b1,t.b2,min (t.goal+stp t.b1.length t.b2.length) n⟩
 else if id∈t.b2 then⟨t.nw,t.mn,t.page,t.ev,t.b1,t.b2,t.goal-stp t.b2.length t.b1.length⟩
 else if n<=t.nw.length+t.b1.length then⟨t.nw,t.mn,t.page,t.ev,t.b1.drop 1,t.b2,t.goal⟩
 else if 2*n<=t.nw.length+t.b1.length+(t.mn.length+t.b2.length)then⟨t.nw,t.mn,t.page,t.ev,t.b1,t.b2.drop 1,t.goal⟩else t
theorem yZ{a b:Nat}(hb:b<=65535):1<=stp a b/\stp a b<=65535:=by
 unfold stp;have:=Nat.div_le_self b a;omega
theorem qa{P:Program}{f:FuncId}{args:Array Value}{w:World}{a n:Nat}{v:Value}
  (h:Calls P f args (w.drewN (a+n)) λe w'=>e=.returned v/\w.drewN (a+n)=w'):Calls P f args (w.drewN (a+n)) λe w''=>e=.returned v/\∃m,w''=w.drewN (a+m):=
 h.mono λ_ _ ⟨he,hm⟩=>⟨he,n,hm.symm⟩
section
variable{w w':World}{b n:Nat}{A:TA}{t:T7}{k1 k2 sp:List Nat}{gp:Nat->Nat}
theorem AC.remd(h:AC w b n A t k1 k2 sp gp){b1 b2:List Nat}(hb:b1.length+b2.length<=n)(hr:cQ w A.gr A.gpb A.mb (n+1) b1 b2 A.FG w'):∃k1' k2' sp' gp',AC w' b n A ⟨t.nw,t.mn,t.page,t.ev,b1,b2,t.goal⟩ k1' k2' sp' gp'/\Fr (FT A b) w w':=by
 obtain⟨j1,j2,js,jp,hg,hf⟩:=hr;obtain⟨n1,n2,n3,n4,n5,n6,n7,n8,n9,n10⟩:=h.lb.ne;exact⟨j1,j2,js,jp,⟨h.hd.fr hf n7,h.rr.fr hf n10,h.pg.fr hf n8,h.be.fr hf n9,hg,h.lb,h.ou,h.hn,h.hi,hb⟩,hf.mono (λi q=>.inr (.inr (.inr (.inr q))))⟩
theorem AC.setGoal(h:AC w b n A t k1 k2 sp gp)(g:Nat)(hg:g<=n):AC (w.setCell ⟨b,0,none⟩ (.int .i64 g)) b n A ⟨t.nw,t.mn,t.page,t.ev,t.b1,t.b2,g⟩ k1 k2 sp gp/\Fr (FT A b) w (w.setCell ⟨b,0,none⟩ (.int .i64 g)):=by
 obtain⟨n1,n2,n3,n4,n5,n6,n7,n8,n9,n10⟩:=h.lb.ne;have f:Fr (λi=>i=b) w (w.setCell ⟨b,0,none⟩ (.int .i64 g)):=(Fr.refl (λi=>i=b) w).setCell (p:=⟨b,0,none⟩) (.inl rfl) _;refine⟨⟨?_,h.rr.fr f (λi hi e=>n4 (e▸hi)),h.pg.fr f (λe=>n1 e.symm),h.be.fr f (λe=>n2 e.symm),h.gg.fr f (λi hi e=>n7 (.inl (e▸hi))) (λe=>n7 (.inr (.inl e.symm))) (λe=>n7 (.inr (.inr e.symm))),h.lb,h.ou,h.hn,hg,h.hb⟩,f.mono (λi q=>.inl q)⟩
 show Blk _ b 8 (twH A n g (n+1) (cntL (t.nw++t.mn) t.ev))
 rw[<-Ac A n t.goal];exact h.hd.set _ _
theorem yO(h:AC w b n A t k1 k2 sp gp)(h1:1<=t.b1.length):Calls prog 230 #[.pointer (some ⟨b,0,none⟩),.int .i64 0,.int .i64 1] w λe w'=>e=.returned (.int .i64 (stp t.b1.length t.b2.length:Nat))/\∃d,w.drewN d=w':=by
 have hn:=h.hn;have hb:=h.hb;have H0:Hid (∀w',Fr NoF w w'->Calls prog 234 #[.pointer (some ⟨b,5,none⟩),.int .i64 0] w' λe w''=>e=.returned (.int .i64 (t.b1.length:Nat))/\w'=w''):=λw' f=>j9 (h.fr0 f).gg (h.fr0 f).gH
 have H1:Hid (∀w',Fr NoF w w'->Calls prog 234 #[.pointer (some ⟨b,5,none⟩),.int .i64 1] w' λe w''=>e=.returned (.int .i64 (t.b2.length:Nat))/\w'=w''):=λw' f=>kg (h.fr0 f).gg (h.fr0 f).gH
 clear h;generalize t.b1.length=x1 at*;generalize t.b2.length=x2 at*;have HS:Hid (stp x1 x2=max 1 (x2/x1)):=rfl;have hle:=Nat.div_le_self x2 x1
 have hdv:wrap64 ((x2:Int)/(x1:Int))=((x2/x1:Nat):Int):=by
  rw[<-Int.natCast_ediv];generalize x2/x1=q at hle;exact IntWalk.wrap64_in _ (by omega)
 generalize x2/x1=q at*;rw[HS.out];clear HS;by_cases hq:1<q
 .rw[show max 1 q=q from by omega]
  have hq':1<(q:Int):=by omega
  clear hq;go_enter func230,ntmps230;go_wp2
  go_region_with (first
   |(go_at_call 234;(with_reducible refine(H0.out _ (Fr.refl NoF _).drew).mono ?_);rintro e w'⟨rfl,rfl⟩)
   |(go_at_call 234;(with_reducible refine(H1.out _ (Fr.refl NoF _).drew).mono ?_);rintro e w'⟨rfl,rfl⟩))
  all_goals
   go_wp2;go_returns;exact⟨rfl,1,rfl⟩
 .rw[show max 1 q=1 from by omega]
  have hq':(q:Int)<=1:=by omega
  clear hq;go_enter func230,ntmps230;go_wp2
  go_region_with (first
   |(go_at_call 234;(with_reducible refine(H0.out _ (Fr.refl NoF _).drew).mono ?_);rintro e w'⟨rfl,rfl⟩)
   |(go_at_call 234;(with_reducible refine(H1.out _ (Fr.refl NoF _).drew).mono ?_);rintro e w'⟨rfl,rfl⟩))
  all_goals
   go_wp2;go_returns;exact⟨rfl,1,rfl⟩
theorem AN(h:AC w b n A t k1 k2 sp gp)(h1:1<=t.b2.length):Calls prog 230 #[.pointer (some ⟨b,0,none⟩),.int .i64 1,.int .i64 0] w λe w'=>e=.returned (.int .i64 (stp t.b2.length t.b1.length:Nat))/\∃d,w.drewN d=w':=by
 have hn:=h.hn;have hb:=h.hb;have H0:Hid (∀w',Fr NoF w w'->Calls prog 234 #[.pointer (some ⟨b,5,none⟩),.int .i64 0] w' λe w''=>e=.returned (.int .i64 (t.b1.length:Nat))/\w'=w''):=λw' f=>j9 (h.fr0 f).gg (h.fr0 f).gH
 have H1:Hid (∀w',Fr NoF w w'->Calls prog 234 #[.pointer (some ⟨b,5,none⟩),.int .i64 1] w' λe w''=>e=.returned (.int .i64 (t.b2.length:Nat))/\w'=w''):=λw' f=>kg (h.fr0 f).gg (h.fr0 f).gH
 clear h;generalize t.b1.length=x2 at*;generalize t.b2.length=x1 at*;have HS:Hid (stp x1 x2=max 1 (x2/x1)):=rfl;have hle:=Nat.div_le_self x2 x1
 have hdv:wrap64 ((x2:Int)/(x1:Int))=((x2/x1:Nat):Int):=by
  rw[<-Int.natCast_ediv];generalize x2/x1=q at hle;exact IntWalk.wrap64_in _ (by omega)
 generalize x2/x1=q at*;rw[HS.out];clear HS;by_cases hq:1<q
 .rw[show max 1 q=q from by omega]
  have hq':1<(q:Int):=by omega
  clear hq;go_enter func230,ntmps230;go_wp2
  go_region_with (first
   |(go_at_call 234;(with_reducible refine(H0.out _ (Fr.refl NoF _).drew).mono ?_);rintro e w'⟨rfl,rfl⟩)
   |(go_at_call 234;(with_reducible refine(H1.out _ (Fr.refl NoF _).drew).mono ?_);rintro e w'⟨rfl,rfl⟩))
  all_goals
   go_wp2;go_returns;exact⟨rfl,1,rfl⟩
 .rw[show max 1 q=1 from by omega]
  have hq':(q:Int)<=1:=by omega
  clear hq;go_enter func230,ntmps230;go_wp2
  go_region_with (first
   |(go_at_call 234;(with_reducible refine(H0.out _ (Fr.refl NoF _).drew).mono ?_);rintro e w'⟨rfl,rfl⟩)
   |(go_at_call 234;(with_reducible refine(H1.out _ (Fr.refl NoF _).drew).mono ?_);rintro e w'⟨rfl,rfl⟩))
  all_goals
   go_wp2;go_returns;exact⟨rfl,1,rfl⟩
def T7.thin(n:Nat)(t:T7):T7:=if n<=t.nw.length+t.b1.length then⟨t.nw,t.mn,t.page,t.ev,t.b1.drop 1,t.b2,t.goal⟩
 else if 2*n<=t.nw.length+t.b1.length+(t.mn.length+t.b2.length)then⟨t.nw,t.mn,t.page,t.ev,t.b1,t.b2.drop 1,t.goal⟩else t
def ck(w:World)(b n:Nat)(A:TA)(t:T7)(w':World):Prop:=(∃k1 k2 sp gp,AC w' b n A t k1 k2 sp gp)/\Fr (FT A b) w w'
theorem ck.trans0{w'':World}(f:Fr NoF w w')(h:ck w' b n A t w''):ck w b n A t w'':=⟨h.1,(f.mono (λ_ q=>q.elim)).trans h.2 (λ_ q=>.inl q)⟩
theorem AC.res(h:AC w b n A t k1 k2 sp gp){b1 b2:List Nat}(hb:b1.length+b2.length<=n)(hr:cQ w A.gr A.gpb A.mb (n+1) b1 b2 A.FG w'):ck w b n A ⟨t.nw,t.mn,t.page,t.ev,b1,b2,t.goal⟩ w':=by
 obtain⟨k1',k2',sp',gp',q1,q2⟩:=h.remd hb hr;exact⟨⟨_,_,_,_,q1⟩,q2⟩
theorem Do(h:AC w b n A t k1 k2 sp gp):Calls prog 226 #[.pointer (some ⟨b,0,none⟩)] w λe w'=>e=.returned (.tuple #[])/\ck w b n A (t.thin n) w':=by
 have hn:=h.hn;have hb:=h.hb;have hln:=h.lists.2.2.2.2;rw[List.length_append]at hln;have c1:w.cell? ⟨b,1,none⟩=some (.pointer (some ⟨A.rb,0,none⟩)):=h.c 1 (by omega);have c2:w.cell? ⟨b,2,none⟩=some (.slice (some ⟨A.pb,0,none⟩) n n):=h.c 2 (by omega);have lb:=h.hd.lt;have H0:Hid (∀d,Calls prog 234 #[.pointer (some ⟨b,5,none⟩),.int .i64 0] (w.drewN d) λe w'=>e=.returned (.int .i64 (t.b1.length:Nat))/\w.drewN d=w'):=λd=>j9 (h.fr0 ((Fr.refl NoF w).drewN d)).gg (h.fr0 ((Fr.refl NoF w).drewN d)).gH
 have H1:Hid (∀d,Calls prog 234 #[.pointer (some ⟨b,5,none⟩),.int .i64 1] (w.drewN d) λe w'=>e=.returned (.int .i64 (t.b2.length:Nat))/\w.drewN d=w'):=λd=>kg (h.fr0 ((Fr.refl NoF w).drewN d)).gg (h.fr0 ((Fr.refl NoF w).drewN d)).gH
 have L0:Hid (∀d,Calls prog 216 #[.pointer (some ⟨A.rb,0,none⟩),.int .i64 0] (w.drewN d) λe w'=>e=.returned (.int .i64 (t.nw.length:Nat))/\w.drewN d=w'):=λd=>dt (h.rr.fr ((Fr.refl NoF w).drewN d) (λ_ _ q=>q)) 0
 have L1:Hid (∀d,Calls prog 216 #[.pointer (some ⟨A.rb,0,none⟩),.int .i64 1] (w.drewN d) λe w'=>e=.returned (.int .i64 (t.mn.length:Nat))/\w.drewN d=w'):=λd=>dt (h.rr.fr ((Fr.refl NoF w).drewN d) (λ_ _ q=>q)) 1
 have E0:Hid (∀d,Calls prog 235 #[.pointer (some ⟨b,5,none⟩),.int .i64 0] (w.drewN d) λe w'=>e=.returned (.tuple #[])/\ck w b n A ⟨t.nw,t.mn,t.page,t.ev,t.b1.drop 1,t.b2,t.goal⟩ w'):=by
  intro d;have f:Fr NoF w (w.drewN d):=(Fr.refl NoF w).drewN d;have h':=h.fr0 f;exact(gD h'.gg h'.gH).1.mono λe w' ⟨he,hr⟩=>⟨he,(h'.res (by rw[List.length_drop];omega) hr).trans0 f⟩
 have E1:Hid (∀d,Calls prog 235 #[.pointer (some ⟨b,5,none⟩),.int .i64 1] (w.drewN d) λe w'=>e=.returned (.tuple #[])/\ck w b n A ⟨t.nw,t.mn,t.page,t.ev,t.b1,t.b2.drop 1,t.goal⟩ w'):=by
  intro d;have f:Fr NoF w (w.drewN d):=(Fr.refl NoF w).drewN d;have h':=h.fr0 f;exact(gD h'.gg h'.gH).2.mono λe w' ⟨he,hr⟩=>⟨he,(h'.res (by rw[List.length_drop];omega) hr).trans0 f⟩
 have E2:Hid (∀d,ck w b n A t (w.drewN d)):=λd=>⟨⟨_,_,_,_,h.fr0 ((Fr.refl NoF w).drewN d)⟩,(Fr.refl (FT A b) w).drewN d⟩
 have HT:Hid (t.thin n=if n<=t.nw.length+t.b1.length then⟨t.nw,t.mn,t.page,t.ev,t.b1.drop 1,t.b2,t.goal⟩
  else if 2*n<=t.nw.length+t.b1.length+(t.mn.length+t.b2.length)then⟨t.nw,t.mn,t.page,t.ev,t.b1,t.b2.drop 1,t.goal⟩else t):=rfl
 clear h;rw[HT.out];clear HT;generalize t.nw.length=a1 at*;generalize t.mn.length=a2 at*;generalize t.b1.length=x1 at*;generalize t.b2.length=x2 at*;have g1:IntKind.i64.wrap ((a1:Int)+(x1:Int))=(a1:Int)+x1:=IntWalk.i64_in _ (by omega);have g2:IntKind.i64.wrap ((a2:Int)+(x2:Int))=(a2:Int)+x2:=IntWalk.i64_in _ (by omega);by_cases hA:n<=a1+x1
 .rw[if_pos hA]
  have hA':(n:Int)<=(a1:Int)+x1:=by omega
  clear hA;go_enter func226,ntmps226;go_wp2
  go_quiet ((first|(go_at_call 216;with_reducible exact qs (L0.out _))|(go_at_call 234;with_reducible exact qs (H0.out _))))
  go_wp2
  go_quiet ((first|(go_at_call 216;with_reducible exact qa (L1.out _))|(go_at_call 234;with_reducible exact qa (H1.out _))))
  go_wp2_with fail
  refine(E0.out _).mono ?_;rintro e w2⟨rfl,h2⟩;have K:=Hd h2;clear h2;go_wp2;go_returns;exact⟨rfl,K.out⟩
 .rw[if_neg hA]
  have hA':(a1:Int)+x1<(n:Int):=by omega
  by_cases hB:2*n<=a1+x1+(a2+x2)
  .rw[if_pos hB]
   have hB':2*(n:Int)<=(a1:Int)+x1+((a2:Int)+x2):=by omega
   clear hA hB;go_enter func226,ntmps226;go_wp2
   go_quiet ((first|(go_at_call 216;with_reducible exact qs (L0.out _))|(go_at_call 234;with_reducible exact qs (H0.out _))))
   go_wp2
   go_quiet ((first|(go_at_call 216;with_reducible exact qa (L1.out _))|(go_at_call 234;with_reducible exact qa (H1.out _))))
   go_wp2_with fail
   refine(E1.out _).mono ?_;rintro e w2⟨rfl,h2⟩;have K:=Hd h2;clear h2;go_wp2;go_returns;exact⟨rfl,K.out⟩
  .rw[if_neg hB]
   have hB':(a1:Int)+x1+((a2:Int)+x2)<2*(n:Int):=by omega
   clear hA hB;go_enter func226,ntmps226;go_wp2
   go_quiet ((first|(go_at_call 216;with_reducible exact qs (L0.out _))|(go_at_call 234;with_reducible exact qs (H0.out _))))
   go_wp2
   go_quiet ((first|(go_at_call 216;with_reducible exact qa (L1.out _))|(go_at_call 234;with_reducible exact qa (H1.out _))))
   go_wp2;go_returns;exact⟨rfl,E2.out _⟩
end
section
variable{w w':World}{b n:Nat}{A:TA}{t:T7}{k1 k2 sp:List Nat}{gp:Nat->Nat}
theorem Aa(h:AC w b n A t k1 k2 sp gp){id:Nat}(hu:aK id)(hm:id∈t.b1):Calls prog 221 #[.pointer (some ⟨b,0,none⟩),.int .u32 id] w λe w'=>e=.returned (.tuple #[])/\ck w b n A (t.miss n id) w':=by
 have hn:=h.hn;have hb:=h.hb;have hgl:=h.hi;have c0:w.cell? ⟨b,0,none⟩=some (.int .i64 (t.goal:Nat)):=h.c 0 (by omega);have c2:w.cell? ⟨b,2,none⟩=some (.slice (some ⟨A.pb,0,none⟩) n n):=h.c 2 (by omega);have f0:w.frozen? ⟨b,0,none⟩=false:=h.hd.frozen 0;have lb:=h.hd.lt;have HSD:=j5 h.gg h.gH hu;rw[show sideN t.b1 t.b2 id=0 from if_pos hm]at HSD
 replace HSD:=Hd HSD
 have h1:1<=t.b1.length:=by
  cases e:t.b1 with
  |nil=>rw[e]at hm;cases hm
  |cons x l=>simp
 have HS:Hid (∀w',Fr NoF w w'->Calls prog 230 #[.pointer (some ⟨b,0,none⟩),.int .i64 0,.int .i64 1] w' λe w''=>e=.returned (.int .i64 (stp t.b1.length t.b2.length:Nat))/\∃d,w'.drewN d=w''):=λw' f=>yO (h.fr0 f) h1
 have HM:Hid (t.miss n id=⟨t.nw,t.mn,t.page,t.ev,t.b1,t.b2,min (t.goal+stp t.b1.length t.b2.length) n⟩):=by unfold Hid T7.miss;rw[if_pos hm]
 have KEY:Hid (∀w',Fr NoF w w'->ck w b n A ⟨t.nw,t.mn,t.page,t.ev,t.b1,t.b2,min (t.goal+stp t.b1.length t.b2.length) n⟩ (w'.setCell ⟨b,0,none⟩ (.int .i64 (min (t.goal+stp t.b1.length t.b2.length) n:Nat)))):=by
  intro w' f;obtain⟨q1,q2⟩:=(h.fr0 f).setGoal (min (t.goal+stp t.b1.length t.b2.length) n) (Nat.min_le_right _ _);exact ck.trans0 f ⟨⟨_,_,_,_,q1⟩,q2⟩
 have hst:=yZ (a:=t.b1.length) (b:=t.b2.length) (by omega);rw[HM.out];clear h hm HM;generalize stp t.b1.length t.b2.length=q at*;generalize t.goal=g at*;have hq:g+q<=n\/¬(g+q<=n):=Decidable.em _;rcases hq with hq|hq
 .rw[show min (g+q) n=g+q from by omega]at KEY⊢
  have hc:(g:Int)+q<=n:=by omega
  have hcast:Hid (((g+q:Nat):Int)=(g:Int)+q):=by unfold Hid;omega
  have hsum:0<=(q:Int)/\(q:Int)<=65535/\(g:Int)<=65535:=by omega
  obtain⟨hs1,hs2,hs3⟩:=hsum;clear hq
  have KEY2:Hid (∀w',Fr NoF w w'->ck w b n A ⟨t.nw,t.mn,t.page,t.ev,t.b1,t.b2,(g+q)⟩ (w'.setCell ⟨b,0,none⟩ (.int .i64 ((g:Int)+q)))):=by
   intro w' f;have:=KEY.out w' f;rw[hcast.out]at this;exact this
  clear hcast KEY;go_enter func221,ntmps221
  go_wp2_with(go_at_call 229;refine HSD.out.mono ?_;rintro e w'⟨rfl,rfl⟩)
  have gw:IntKind.i64.wrap ((g:Int)+(q:Int))=(g:Int)+(q:Int):=IntWalk.i64_in _ (by omega)
  go_region_with (go_at_call 230;(first|(with_reducible refine(HS.out _ (Fr.refl NoF _)).mono ?_)|(with_reducible refine(HS.out _ (Fr.refl NoF _).drew).mono ?_));rintro e w'⟨rfl,d,rfl⟩)
  all_goals
   go_wp2;go_returns;refine⟨rfl,KEY2.out _ ?_⟩
   repeat(first|exact Fr.refl NoF _|apply Fr.drew|apply Fr.drewN)
 .rw[show min (g+q) n=n from by omega]at KEY⊢
  have hc:(n:Int)<(g:Int)+q:=by omega
  have hcast:Hid (((n:Nat):Int)=(n:Int)):=by unfold Hid;omega
  have hsum:0<=(q:Int)/\(q:Int)<=65535/\(g:Int)<=65535:=by omega
  obtain⟨hs1,hs2,hs3⟩:=hsum;clear hq
  have KEY2:Hid (∀w',Fr NoF w w'->ck w b n A ⟨t.nw,t.mn,t.page,t.ev,t.b1,t.b2,n⟩ (w'.setCell ⟨b,0,none⟩ (.int .i64 ((n:Int))))):=by
   intro w' f;have:=KEY.out w' f;rw[hcast.out]at this;exact this
  clear hcast KEY;go_enter func221,ntmps221
  go_wp2_with(go_at_call 229;refine HSD.out.mono ?_;rintro e w'⟨rfl,rfl⟩)
  have gw:IntKind.i64.wrap ((g:Int)+(q:Int))=(g:Int)+(q:Int):=IntWalk.i64_in _ (by omega)
  go_region_with (go_at_call 230;(first|(with_reducible refine(HS.out _ (Fr.refl NoF _)).mono ?_)|(with_reducible refine(HS.out _ (Fr.refl NoF _).drew).mono ?_));rintro e w'⟨rfl,d,rfl⟩)
  all_goals
   go_wp2;go_returns;refine⟨rfl,KEY2.out _ ?_⟩
   repeat(first|exact Fr.refl NoF _|apply Fr.drew|apply Fr.drewN)
theorem yB(h:AC w b n A t k1 k2 sp gp){id:Nat}(hu:aK id)(hm0:¬id∈t.b1)(hm:id∈t.b2):Calls prog 221 #[.pointer (some ⟨b,0,none⟩),.int .u32 id] w λe w'=>e=.returned (.tuple #[])/\ck w b n A (t.miss n id) w':=by
 have hn:=h.hn;have hb:=h.hb;have hgl:=h.hi;have c0:w.cell? ⟨b,0,none⟩=some (.int .i64 (t.goal:Nat)):=h.c 0 (by omega);have c2:w.cell? ⟨b,2,none⟩=some (.slice (some ⟨A.pb,0,none⟩) n n):=h.c 2 (by omega);have f0:w.frozen? ⟨b,0,none⟩=false:=h.hd.frozen 0;have lb:=h.hd.lt;have HSD:=j5 h.gg h.gH hu;rw[show sideN t.b1 t.b2 id=1 from(by unfold sideN;rw[if_neg hm0,if_pos hm])]at HSD
 replace HSD:=Hd HSD
 have h1:1<=t.b2.length:=by
  cases e:t.b2 with
  |nil=>rw[e]at hm;cases hm
  |cons x l=>simp
 have HS:Hid (∀w',Fr NoF w w'->Calls prog 230 #[.pointer (some ⟨b,0,none⟩),.int .i64 1,.int .i64 0] w' λe w''=>e=.returned (.int .i64 (stp t.b2.length t.b1.length:Nat))/\∃d,w'.drewN d=w''):=λw' f=>AN (h.fr0 f) h1
 have HM:Hid (t.miss n id=⟨t.nw,t.mn,t.page,t.ev,t.b1,t.b2,t.goal-stp t.b2.length t.b1.length⟩):=by unfold Hid T7.miss;rw[if_neg hm0,if_pos hm]
 have KEY:Hid (∀w',Fr NoF w w'->ck w b n A ⟨t.nw,t.mn,t.page,t.ev,t.b1,t.b2,t.goal-stp t.b2.length t.b1.length⟩ (w'.setCell ⟨b,0,none⟩ (.int .i64 (t.goal-stp t.b2.length t.b1.length:Nat)))):=by
  intro w' f;obtain⟨q1,q2⟩:=(h.fr0 f).setGoal (t.goal-stp t.b2.length t.b1.length) (Nat.le_trans (Nat.sub_le _ _) hgl);exact ck.trans0 f ⟨⟨_,_,_,_,q1⟩,q2⟩
 have hst:=yZ (a:=t.b2.length) (b:=t.b1.length) (by omega);rw[HM.out];clear h hm HM hm0;generalize stp t.b2.length t.b1.length=q at*;generalize t.goal=g at*;have hq:q<=g\/¬(q<=g):=Decidable.em _;rcases hq with hq|hq
 .have hc:0<=(g:Int)-q:=by omega
  have hcast:Hid (((g-q:Nat):Int)=(g:Int)-q):=by unfold Hid;omega
  have hsum:0<=(q:Int)/\(q:Int)<=65535/\(g:Int)<=65535:=by omega
  obtain⟨hs1,hs2,hs3⟩:=hsum;clear hq
  have KEY2:Hid (∀w',Fr NoF w w'->ck w b n A ⟨t.nw,t.mn,t.page,t.ev,t.b1,t.b2,(g-q)⟩ (w'.setCell ⟨b,0,none⟩ (.int .i64 ((g:Int)-q)))):=by
   intro w' f;have:=KEY.out w' f;rw[hcast.out]at this;exact this
  clear hcast KEY;go_enter func221,ntmps221
  go_wp2_with(go_at_call 229;refine HSD.out.mono ?_;rintro e w'⟨rfl,rfl⟩)
  have gw:IntKind.i64.wrap ((g:Int)-(q:Int))=(g:Int)-(q:Int):=IntWalk.i64_in _ (by omega)
  go_region_with (go_at_call 230;(first|(with_reducible refine(HS.out _ (Fr.refl NoF _)).mono ?_)|(with_reducible refine(HS.out _ (Fr.refl NoF _).drew).mono ?_));rintro e w'⟨rfl,d,rfl⟩)
  all_goals
   go_wp2;go_returns;refine⟨rfl,KEY2.out _ ?_⟩
   repeat(first|exact Fr.refl NoF _|apply Fr.drew|apply Fr.drewN)
 .rw[show g-q=0 from by omega]at KEY⊢
  have hc:(g:Int)-q<0:=by omega
  have hcast:Hid (((0:Nat):Int)=(0:Int)):=by unfold Hid;omega
  have hsum:0<=(q:Int)/\(q:Int)<=65535/\(g:Int)<=65535:=by omega
  obtain⟨hs1,hs2,hs3⟩:=hsum;clear hq
  have KEY2:Hid (∀w',Fr NoF w w'->ck w b n A ⟨t.nw,t.mn,t.page,t.ev,t.b1,t.b2,0⟩ (w'.setCell ⟨b,0,none⟩ (.int .i64 ((0:Int))))):=by
   intro w' f;have:=KEY.out w' f;rw[hcast.out]at this;exact this
  clear hcast KEY;go_enter func221,ntmps221
  go_wp2_with(go_at_call 229;refine HSD.out.mono ?_;rintro e w'⟨rfl,rfl⟩)
  have gw:IntKind.i64.wrap ((g:Int)-(q:Int))=(g:Int)-(q:Int):=IntWalk.i64_in _ (by omega)
  go_region_with (go_at_call 230;(first|(with_reducible refine(HS.out _ (Fr.refl NoF _)).mono ?_)|(with_reducible refine(HS.out _ (Fr.refl NoF _).drew).mono ?_));rintro e w'⟨rfl,d,rfl⟩)
  all_goals
   go_wp2;go_returns;refine⟨rfl,KEY2.out _ ?_⟩
   repeat(first|exact Fr.refl NoF _|apply Fr.drew|apply Fr.drewN)
theorem ox(h:AC w b n A t k1 k2 sp gp){id:Nat}(hu:aK id)(hm0:¬id∈t.b1)(hm:¬id∈t.b2):Calls prog 221 #[.pointer (some ⟨b,0,none⟩),.int .u32 id] w λe w'=>e=.returned (.tuple #[])/\ck w b n A (t.miss n id) w':=by
 have HSD:=j5 h.gg h.gH hu;rw[show sideN t.b1 t.b2 id= -1 from(by unfold sideN;rw[if_neg hm0,if_neg hm])]at HSD
 replace HSD:=Hd HSD
 have HT:=Hd (Do h);have HM:Hid (t.miss n id=t.thin n):=by unfold Hid T7.miss T7.thin;rw[if_neg hm0,if_neg hm]
 rw[HM.out];clear h hm HM hm0;go_enter func221,ntmps221
 go_wp2_with(go_at_call 229;refine HSD.out.mono ?_;rintro e w'⟨rfl,rfl⟩)
 refine HT.out.mono ?_;rintro e w2⟨rfl,h2⟩;have K:=Hd h2;clear h2;go_wp2;go_returns;exact⟨rfl,K.out⟩
theorem CJ(h:AC w b n A t k1 k2 sp gp){id:Nat}(hu:aK id):Calls prog 221 #[.pointer (some ⟨b,0,none⟩),.int .u32 id] w λe w'=>e=.returned (.tuple #[])/\ck w b n A (t.miss n id) w':=by
 by_cases h1:id∈t.b1
 .exact Aa h hu h1
 .by_cases h2:id∈t.b2
  .exact yB h hu h1 h2
  .exact ox h hu h1 h2
end
def T7.fst(t:T7)(c:Int):Prop:=0<t.nw.length/\(t.goal<t.nw.length\/(t.nw.length=t.goal/\c=1))
instance(t:T7)(c:Int):Decidable (t.fst c):=by unfold T7.fst;infer_instance
def T7.goesC(t:T7)(c:Int):Option Nat:=if t.fst c then(t.nw.find? t.ev).or (t.mn.find? t.ev)else(t.mn.find? t.ev).or (t.nw.find? t.ev)
def T7.goes(t:T7)(id:Nat):Option Nat:=t.goesC (sideN t.b1 t.b2 id)
def T7.put(t:T7)(f:Nat):List Nat×List Nat:=(if f∈t.nw then t.b1++[t.page f]else t.b1,if f∈t.nw then t.b2 else t.b2++[t.page f])
def T7.keep(n:Nat)(t:T7)(f:Nat):T7:=⟨t.nw,t.mn,t.page,t.ev,(bnd n (t.put f).1 (t.put f).2).1,(bnd n (t.put f).1 (t.put f).2).2,t.goal⟩
def T7.gone(n:Nat)(t:T7)(id f:Nat):T7:=(if 0<=sideN t.b1 t.b2 id\/t.nw.length<n then t.keep n f else t).rem f
structure TI7(t:T7):Prop where
 u:∀f,f∈t.nw\/f∈t.mn->aK (t.page f)/\¬t.page f∈t.b1++t.b2
 ij:∀f g,(f∈t.nw\/f∈t.mn)->(g∈t.nw\/g∈t.mn)->t.page f=t.page g->f=g
section
variable{w w':World}{b n:Nat}{A:TA}{t:T7}{k1 k2 sp:List Nat}{gp:Nat->Nat}
theorem iG(h:AC w b n A t k1 k2 sp gp)(d:Nat):(Calls prog 236 #[.pointer (some ⟨b,0,none⟩),.int .i64 0] (w.drewN d) λe w'=>e=.returned (.int .i64 (ixI (t.nw.find? t.ev)))/\∃d,w.drewN d=w')/\
  Calls prog 236 #[.pointer (some ⟨b,0,none⟩),.int .i64 1] (w.drewN d) λe w'=>e=.returned (.int .i64 (ixI (t.mn.find? t.ev)))/\∃d,w.drewN d=w':=by
 have h1:=h.fr0 ((Fr.refl NoF w).drewN d);refine⟨(mQ h1 0 (l:=t.nw) rfl).mono λe w' ⟨he,d',hw⟩=>⟨he,d+d',?_⟩,(mQ h1 1 (l:=t.mn) rfl).mono λe w' ⟨he,d',hw⟩=>⟨he,d+d',?_⟩⟩
 .rw[<-hw,World.drewN_drewN]
 .rw[<-hw,World.drewN_drewN]
theorem CK(h:AC w b n A t k1 k2 sp gp)(c:Int):Calls prog 231 #[.pointer (some ⟨b,0,none⟩),.int .i64 c] w λe w'=>e=.returned (.int .i64 (ixI (t.goesC c)))/\∃d,w.drewN d=w':=by
 have c0:w.cell? ⟨b,0,none⟩=some (.int .i64 (t.goal:Nat)):=h.c 0 (by omega);have c1:w.cell? ⟨b,1,none⟩=some (.pointer (some ⟨A.rb,0,none⟩)):=h.c 1 (by omega);have HL:Hid (Calls prog 216 #[.pointer (some ⟨A.rb,0,none⟩),.int .i64 0] w λe w'=>e=.returned (.int .i64 (t.nw.length:Nat))/\w=w'):=dt h.rr 0;have HE0:=Hd (λd=>(iG h d).1);have HE1:=Hd (λd=>(iG h d).2);have hln:=h.lists.2.2.2.2;rw[List.length_append]at hln;have hn:=h.hn;have hi:=h.hi
 have HG:Hid (t.goesC c=if(0<t.nw.length/\(t.goal<t.nw.length\/(t.nw.length=t.goal/\c=1)))then(t.nw.find? t.ev).or (t.mn.find? t.ev)else(t.mn.find? t.ev).or (t.nw.find? t.ev)):=by
  unfold Hid T7.goesC;by_cases q:t.fst c
  .rw[if_pos q];exact(if_pos q).symm
  .rw[if_neg q];exact(if_neg q).symm
 clear h;rw[HG.out];clear HG;generalize t.nw.length=L at*;generalize t.goal=g at*;generalize t.nw.find? t.ev=X at*;generalize t.mn.find? t.ev=Y at*;by_cases hL:0<L
 .have hL':0<(L:Int):=by omega
  by_cases hgL:g<L
  .rw[if_pos ⟨hL,.inl hgL⟩]
   have hgL':(g:Int)<L:=by omega
   clear hL hgL
   cases X with
   |none=>
    rw[show ixI (none:Option Nat)= -1 from rfl]at HE0;rw[show Option.or none Y=Y from rfl];go_enter func231,ntmps231
    go_wp2_with(go_at_call 216;refine HL.out.mono ?_;rintro e w'⟨rfl,rfl⟩)
    refine(HE0.out 0).mono ?_;rintro e w1⟨rfl,d1,rfl⟩
    go_wp2_with fail
    refine(HE1.out _).mono ?_;rintro e w2⟨rfl,d2,rfl⟩;go_wp2;go_returns;exact⟨rfl,_,rfl⟩
   |some x=>
    rw[show ixI (some x)=(x:Int)from rfl]at HE0;rw[show ixI (Option.or (some x) Y)=(x:Int)from rfl];go_enter func231,ntmps231
    go_wp2_with(go_at_call 216;refine HL.out.mono ?_;rintro e w'⟨rfl,rfl⟩)
    refine(HE0.out 0).mono ?_;rintro e w1⟨rfl,d1,rfl⟩;go_wp2;go_returns;exact⟨rfl,_,rfl⟩
  .by_cases he:L=g
   .have hgL':(L:Int)<=g:=by omega
    have he':((L:Int)==(g:Int))=true:=by simp;omega
    by_cases hc:c=1
    .rw[if_pos ⟨hL,.inr ⟨he,hc⟩⟩]
     subst hc;clear hL hgL he
     cases X with
     |none=>
      rw[show ixI (none:Option Nat)= -1 from rfl]at HE0;rw[show Option.or none Y=Y from rfl];go_enter func231,ntmps231
      go_wp2_with(go_at_call 216;refine HL.out.mono ?_;rintro e w'⟨rfl,rfl⟩)
      refine(HE0.out 0).mono ?_;rintro e w1⟨rfl,d1,rfl⟩
      go_wp2_with fail
      refine(HE1.out _).mono ?_;rintro e w2⟨rfl,d2,rfl⟩;go_wp2;go_returns;exact⟨rfl,_,rfl⟩
     |some x=>
      rw[show ixI (some x)=(x:Int)from rfl]at HE0;rw[show ixI (Option.or (some x) Y)=(x:Int)from rfl];go_enter func231,ntmps231
      go_wp2_with(go_at_call 216;refine HL.out.mono ?_;rintro e w'⟨rfl,rfl⟩)
      refine(HE0.out 0).mono ?_;rintro e w1⟨rfl,d1,rfl⟩;go_wp2;go_returns;exact⟨rfl,_,rfl⟩
    .rw[if_neg (λq=>q.2.elim (λq=>hgL q) (λq=>hc q.2))]
     have hc':(c==1)=false:=by simpa using hc
     clear hL hgL he
     cases Y with
     |none=>
      rw[show ixI (none:Option Nat)= -1 from rfl]at HE1;rw[show Option.or none X=X from rfl];go_enter func231,ntmps231
      go_wp2_with(go_at_call 216;refine HL.out.mono ?_;rintro e w'⟨rfl,rfl⟩)
      refine(HE1.out 0).mono ?_;rintro e w1⟨rfl,d1,rfl⟩
      go_wp2_with fail
      refine(HE0.out _).mono ?_;rintro e w2⟨rfl,d2,rfl⟩;go_wp2;go_returns;exact⟨rfl,_,rfl⟩
     |some x=>
      rw[show ixI (some x)=(x:Int)from rfl]at HE1;rw[show ixI (Option.or (some x) X)=(x:Int)from rfl];go_enter func231,ntmps231
      go_wp2_with(go_at_call 216;refine HL.out.mono ?_;rintro e w'⟨rfl,rfl⟩)
      refine(HE1.out 0).mono ?_;rintro e w1⟨rfl,d1,rfl⟩;go_wp2;go_returns;exact⟨rfl,_,rfl⟩
   .rw[if_neg (λq=>q.2.elim (λq=>hgL q) (λq=>he q.1))]
    have hgL':(L:Int)<=g:=by omega
    have he':((L:Int)==(g:Int))=false:=by simp;omega
    clear hL hgL he
    cases Y with
    |none=>
     rw[show ixI (none:Option Nat)= -1 from rfl]at HE1;rw[show Option.or none X=X from rfl];go_enter func231,ntmps231
     go_wp2_with(go_at_call 216;refine HL.out.mono ?_;rintro e w'⟨rfl,rfl⟩)
     refine(HE1.out 0).mono ?_;rintro e w1⟨rfl,d1,rfl⟩
     go_wp2_with fail
     refine(HE0.out _).mono ?_;rintro e w2⟨rfl,d2,rfl⟩;go_wp2;go_returns;exact⟨rfl,_,rfl⟩
    |some x=>
     rw[show ixI (some x)=(x:Int)from rfl]at HE1;rw[show ixI (Option.or (some x) X)=(x:Int)from rfl];go_enter func231,ntmps231
     go_wp2_with(go_at_call 216;refine HL.out.mono ?_;rintro e w'⟨rfl,rfl⟩)
     refine(HE1.out 0).mono ?_;rintro e w1⟨rfl,d1,rfl⟩;go_wp2;go_returns;exact⟨rfl,_,rfl⟩
 .rw[if_neg (λq=>hL q.1)]
  have hL':(L:Int)<=0:=by omega
  clear hL
  cases Y with
  |none=>
   rw[show ixI (none:Option Nat)= -1 from rfl]at HE1;rw[show Option.or none X=X from rfl];go_enter func231,ntmps231
   go_wp2_with(go_at_call 216;refine HL.out.mono ?_;rintro e w'⟨rfl,rfl⟩)
   refine(HE1.out 0).mono ?_;rintro e w1⟨rfl,d1,rfl⟩
   go_wp2_with fail
   refine(HE0.out _).mono ?_;rintro e w2⟨rfl,d2,rfl⟩;go_wp2;go_returns;exact⟨rfl,_,rfl⟩
  |some x=>
   rw[show ixI (some x)=(x:Int)from rfl]at HE1;rw[show ixI (Option.or (some x) X)=(x:Int)from rfl];go_enter func231,ntmps231
   go_wp2_with(go_at_call 216;refine HL.out.mono ?_;rintro e w'⟨rfl,rfl⟩)
   refine(HE1.out 0).mono ?_;rintro e w1⟨rfl,d1,rfl⟩;go_wp2;go_returns;exact⟨rfl,_,rfl⟩
theorem kA{t:T7}{c:Int}:t.goesC c=none↔cntL (t.nw++t.mn) t.ev=0:=by
 have h1:t.goesC c=none↔(∀x∈t.nw,¬t.ev x=true)/\∀x∈t.mn,¬t.ev x=true:=by
  unfold T7.goesC
  split<;>rw[Option.or_eq_none_iff,List.find?_eq_none,List.find?_eq_none]
  exact⟨λq=>⟨q.2,q.1⟩,λq=>⟨q.2,q.1⟩⟩
 rw[h1];unfold cntL;rw[List.length_eq_zero_iff,List.filter_eq_nil_iff];constructor
 .rintro⟨q1,q2⟩x hx
  exact(List.mem_append.1 hx).elim (q1 x) (q2 x)
 .intro q
  exact⟨λx hx=>q x (List.mem_append.2 (.inl hx)),λx hx=>q x (List.mem_append.2 (.inr hx))⟩
theorem m7{t:T7}{c:Int}{f:Nat}(h:t.goesC c=some f):f∈t.nw\/f∈t.mn:=by
 unfold T7.goesC at h
 split at h
 .rcases Option.or_eq_some_iff.1 h with q|⟨_,q⟩
  .exact .inl (List.mem_of_find?_eq_some q)
  .exact .inr (List.mem_of_find?_eq_some q)
 .rcases Option.or_eq_some_iff.1 h with q|⟨_,q⟩
  .exact .inr (List.mem_of_find?_eq_some q)
  .exact .inl (List.mem_of_find?_eq_some q)
theorem oK(h:AC w b n A t k1 k2 sp gp)(p:Int){id:Nat}(hv:t.goes id=none):Calls prog 225 #[.pointer (some ⟨b,0,none⟩),.int .u32 p] w λe w'=>e=.returned (.tuple #[.int .i64 0,.bool false])/\w=w':=by
 have HZ:=uF h;rw[kA.1 hv]at HZ;have H:=Hd HZ;clear HZ hv h;go_enter func225,ntmps225
 go_wp2_with(go_at_call 224;refine H.out.mono ?_;rintro e w'⟨rfl,rfl⟩)
 go_returns;exact⟨rfl,rfl⟩
end
end
end Go.Proofs.YtoenclhimbpfeaaGreatDoor
