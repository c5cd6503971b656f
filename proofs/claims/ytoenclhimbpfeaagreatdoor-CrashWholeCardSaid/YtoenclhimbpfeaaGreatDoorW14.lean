/- Part 14. -/
import Derived.Test.YtoenclhimbpfeaaGreatDoorW13
namespace Go.Proofs.YtoenclhimbpfeaaGreatDoor
set_option linter.all false
set_option maxHeartbeats 16000000
set_option maxRecDepth 100000
section
open Go.Maps Go.Proofs.Tryz Go.RowKit
def T6.come(t:T6)(f id:Nat):T6:=if id∈t.gh then⟨t.nw,t.mn++[f],upd t.page f id,t.ev,ac t.gh id⟩else⟨t.nw++[f],t.mn,upd t.page f id,t.ev,t.gh⟩
def T6.acc(t:T6)(f id:Nat):T6:=if f∈t.nw then t else if f∈t.mn then⟨t.nw,ac t.mn f++[f],t.page,t.ev,t.gh⟩else t.come f id
def T6.goes(inn:Nat)(t:T6):Option Nat:=if inn<t.nw.length then(t.nw.find? t.ev).or (t.mn.find? t.ev)else(t.mn.find? t.ev).or (t.nw.find? t.ev)
def T6.gone(out:Nat)(t:T6)(f:Nat):T6:=(if f∈t.nw then(⟨t.nw,t.mn,t.page,t.ev,aV out (t.gh++[t.page f])⟩:T6)else t).rem f
structure TI(t:T6):Prop where
 u:∀f,f∈t.nw\/f∈t.mn->aK (t.page f)/\¬t.page f∈t.gh
 ij:∀f g,(f∈t.nw\/f∈t.mn)->(g∈t.nw\/g∈t.mn)->t.page f=t.page g->f=g
theorem iQ(l:List Nat)(ev:Nat->Bool)(f:Nat)(h:ev f=false):cntL (l++[f]) ev=cntL l ev:=by simp[cntL,h]
section
variable{w w':World}{b n inn out:Nat}{A:TA}{t:T6}{tk sp:List Nat}{gp:Nat->Nat}
theorem TC.laid(h:TC w b n inn out A t tk sp gp){f id:Nat}(hf:f<n)(hm:¬(f∈t.nw\/f∈t.mn)){gh':List Nat}{tk' sp':List Nat}{gp':Nat->Nat}{w1 w2:World}(hg:GR w1 A.gr A.gpb A.mb out tk' sp' gp' gh' A.FG)(f1:Fr (FGm A.FG A.gpb A.mb) w w1){nw' mn':List Nat}
  (hR:RR w2 A.rb n 2 [nw',mn'] A.FR)(f2:Fr A.FR (w1.setCell ⟨A.pb,f,none⟩ (.int .u32 id)) w2)(hc:cntL (nw'++mn') t.ev=cntL (t.nw++t.mn) t.ev)(hou:∀x,x∈t.nw\/x∈t.mn->x∈nw'\/x∈mn'):
  TC w2 b n inn out A ⟨nw',mn',upd t.page f id,t.ev,gh'⟩ tk' sp' gp'/\Fr (FT A b) w w2:=by
 obtain⟨n1,n2,n3,n4,n5,n6,n7,n8,n9,n10⟩:=h.lb.ne;have fs:Fr (λi=>i=A.pb) w1 (w1.setCell ⟨A.pb,f,none⟩ (.int .u32 id)):=(Fr.refl (λi=>i=A.pb) w1).setCell (p:=⟨A.pb,f,none⟩) (.inl rfl) _;refine⟨⟨?_,hR,?_,((h.be.fr f1 n9).fr fs (λe=>n3 e.symm)).fr f2 n6,(hg.fr fs (λi hi e=>n8 (e▸.inl hi)) (λe=>n8 (.inr (.inl e.symm))) (λe=>n8 (.inr (.inr e.symm)))).fr f2 (λi hi q=>n10 i q (.inl hi)) (λq=>n10 _ q (.inr (.inl rfl))) (λq=>n10 _ q (.inr (.inr rfl))),h.lb,λx hx=>hou x (h.ou x hx),h.hn,h.hi⟩,?_⟩
 .show Blk w2 b 8 (twH A n inn out (cntL (nw'++mn') t.ev))
  rw[hc];exact((h.hd.fr f1 n7).fr fs n1).fr f2 n4
 .rw[<-lU]
  exact((h.pg.fr f1 n8).set _ _).fr f2 n5
 .refine((f1.mono (λi q=>?_)).trans fs (λi q=>.inl (.inr (.inl q)))).trans f2 (λi q=>.inl (.inr (.inr (.inr (.inl q)))))
  exact .inr (.inr (.inr (.inr q)))
theorem zo(h:TC w b n inn out A t tk sp gp){f id:Nat}(hf:f<n)(hm:¬(f∈t.nw\/f∈t.mn))(hid:id∈t.gh):
  Calls prog 211 #[.pointer (some ⟨b,0,none⟩),.int .i64 f,.int .u32 id] w λe w'=>e=.returned (.tuple #[])/\(∃tk' sp' gp',TC w' b n inn out A (t.come f id) tk' sp' gp')/\Fr (FT A b) w w':=by
 obtain⟨p,hp,rfl⟩:∃p∈tk,gp p=id:=by
  rw[h.gg.hg]at hid;obtain⟨p,hp,e⟩:=List.mem_map.1 hid;exact⟨p,hp,e⟩
 have HE:Hid (t.come f (gp p)=⟨t.nw,t.mn++[f],upd t.page f (gp p),t.ev,ac t.gh (gp p)⟩):=if_pos hid;have HFG:=Hd (la h.gg h.gH hp);have hn:=h.hn;have HH:=Hd h;have HM:=Hd hm;clear h hm hid;generalize gp p=x at*;go_enter func211,ntmps211
 go_wp2_with fail
 refine HFG.out.mono ?_;clear HFG;rintro e w1⟨rfl,hg,f1⟩;obtain⟨n1,n2,n3,n4,n5,n6,n7,n8,n9,n10⟩:=HH.out.lb.ne;have hh1:=HH.out.hd.fr f1 n7;have c1:w1.cell? ⟨b,1,none⟩=some (.pointer (some ⟨A.rb,0,none⟩)):=hh1.cell (by omega);have c2:w1.cell? ⟨b,2,none⟩=some (.slice (some ⟨A.pb,0,none⟩) n n):=hh1.cell (by omega);have hpg:=HH.out.pg.fr f1 n8;have cp:w1.cell? ⟨A.pb,f,none⟩=some (.int .u32 (t.page f:Nat)):=hpg.cell hf;have fp:=hpg.frozen f;have lb:=hh1.lt;have lp:=hpg.lt;have fs:Fr (λi=>i=A.pb) w1 (w1.setCell ⟨A.pb,f,none⟩ (.int .u32 x)):=(Fr.refl (λi=>i=A.pb) w1).setCell (p:=⟨A.pb,f,none⟩) (.inl rfl) _;have HB:=Hd (aI ((HH.out.rr.fr f1 (λi q e=>n10 i q e)).fr fs (λi hi e=>n5 (e▸hi))) 1 f (by omega) hf);have HG:=Hd hg;have HF1:=Hd f1;generalize t.page f=z at cp;clear hg f1 hh1 hpg fs n2 n3 n4 n5 n6 n7 n8 n9 n10
 go_wp2_with fail
 refine HB.out.mono ?_;clear HB;rintro e w2⟨rfl,hR,f2⟩
 have key:TC w2 b n inn out A ⟨t.nw,t.mn++[f],upd t.page f x,t.ev,ac t.gh x⟩ (ac tk p) (sp++[p]) gp/\Fr (FT A b) w w2:=by
  have hl:=HH.out.lists;rw[dz hl.2.2.2.1,ah (λq=>HM.out (.inl q)),ah (λq=>HM.out (.inr q))]at hR;refine HH.out.laid hf HM.out HG.out HF1.out hR f2 ?_ (λy hy=>hy.imp (λq=>q) (λq=>List.mem_append.2 (.inl q)));rw[<-List.append_assoc];exact iQ _ _ _ (by cases e:t.ev f with|false=>rfl|true=>exact(HM.out (HH.out.ou f e)).elim)
 have KEY:=Hd key;clear hR f2 key;go_wp2;go_returns;exact⟨rfl,⟨_,_,_,by rw[HE.out];exact KEY.out.1⟩,KEY.out.2⟩
theorem Cq(h:TC w b n inn out A t tk sp gp){f id:Nat}(hf:f<n)(hm:¬(f∈t.nw\/f∈t.mn))(hu:aK id)(hid:¬id∈t.gh):
  Calls prog 211 #[.pointer (some ⟨b,0,none⟩),.int .i64 f,.int .u32 id] w λe w'=>e=.returned (.tuple #[])/\(∃tk' sp' gp',TC w' b n inn out A (t.come f id) tk' sp' gp')/\Fr (FT A b) w w':=by
 have HE:Hid (t.come f id=⟨t.nw++[f],t.mn,upd t.page f id,t.ev,t.gh⟩):=if_neg hid;have HFG:=Hd (xW h.gg h.gH hu hid);have hn:=h.hn;have HH:=Hd h;have HM:=Hd hm;obtain⟨n1,n2,n3,n4,n5,n6,n7,n8,n9,n10⟩:=HH.out.lb.ne;have c1:w.cell? ⟨b,1,none⟩=some (.pointer (some ⟨A.rb,0,none⟩)):=h.c 1 (by omega);have c2:w.cell? ⟨b,2,none⟩=some (.slice (some ⟨A.pb,0,none⟩) n n):=h.c 2 (by omega);have cp:=h.cp hf;have fp:=h.pg.frozen f;have lb:=h.hd.lt;have lp:=h.pg.lt;have fs:Fr (λi=>i=A.pb) w (w.setCell ⟨A.pb,f,none⟩ (.int .u32 id)):=(Fr.refl (λi=>i=A.pb) w).setCell (p:=⟨A.pb,f,none⟩) (.inl rfl) _;have HB:=Hd (aI (h.rr.fr fs (λi hi e=>n5 (e▸hi))) 0 f (by omega) hf);generalize t.page f=z at cp;clear h hm hid hu fs n2 n3 n4 n5 n6 n7 n8 n9 n10;go_enter func211,ntmps211
 go_wp2_with(go_at_call 215;refine HFG.out.mono ?_;rintro e w'⟨rfl,rfl⟩)
 refine HB.out.mono ?_;clear HB HFG;rintro e w2⟨rfl,hR,f2⟩
 have key:TC w2 b n inn out A ⟨t.nw++[f],t.mn,upd t.page f id,t.ev,t.gh⟩ tk sp gp/\Fr (FT A b) w w2:=by
  have hl:=HH.out.lists;rw[j8 hl.2.2.2.1,ah (λq=>HM.out (.inl q)),ah (λq=>HM.out (.inr q))]at hR;refine HH.out.laid hf HM.out HH.out.gg (Fr.refl _ _) hR f2 ?_ (λy hy=>hy.imp (λq=>List.mem_append.2 (.inl q)) (λq=>q));have e0:t.ev f=false:=by cases e:t.ev f with|false=>rfl|true=>exact(HM.out (HH.out.ou f e)).elim
  rw[bE (t.nw++[f]),iQ _ _ _ e0,<-bE]
 have KEY:=Hd key;clear hR f2 key;go_wp2;go_returns;exact⟨rfl,⟨_,_,_,by rw[HE.out];exact KEY.out.1⟩,KEY.out.2⟩
theorem wu(h:TC w b n inn out A t tk sp gp){f id:Nat}(hf:f<n)(hu:aK id):
  Calls prog 204 #[.pointer (some ⟨b,0,none⟩),.int .i64 f,.int .u32 id] w λe w'=>e=.returned (.tuple #[])/\(∃tk' sp' gp',TC w' b n inn out A (t.acc f id) tk' sp' gp')/\Fr (FT A b) w w':=by
 have c1:w.cell? ⟨b,1,none⟩=some (.pointer (some ⟨A.rb,0,none⟩)):=h.c 1 (by omega);have c2:w.cell? ⟨b,2,none⟩=some (.slice (some ⟨A.pb,0,none⟩) n n):=h.c 2 (by omega);have hn:=h.hn;have HI:=fj h.rr f;rw[ix2]at HI;by_cases hm:f∈t.nw
 .rw[if_pos hm]at HI
  have H:=Hd HI;have HE:Hid (t.acc f id=t):=if_pos hm;have HH:=Hd h;clear HI hm h hu;go_enter func204,ntmps204
  go_wp2_with(go_at_call 112;refine H.out.mono ?_;rintro e w'⟨rfl,rfl⟩)
  go_returns;exact⟨rfl,⟨_,_,_,by rw[HE.out];exact HH.out⟩,Fr.refl _ _⟩
 .rw[if_neg hm]at HI
  by_cases hm2:f∈t.mn
  .rw[if_pos hm2]at HI
   have H:=Hd HI;have HE:Hid (t.acc f id=⟨t.nw,ac t.mn f++[f],t.page,t.ev,t.gh⟩):=by unfold Hid T6.acc;rw[if_neg hm,if_pos hm2]
   have HB:=Hd (aI h.rr 1 f (by omega) hf);have HH:=Hd h;have HM:=Hd (And.intro hm hm2);clear HI hm hm2 h hu;go_enter func204,ntmps204
   go_wp2_with(go_at_call 112;refine H.out.mono ?_;rintro e w'⟨rfl,rfl⟩)
   refine HB.out.mono ?_;clear HB H;rintro e w2⟨rfl,hR,f2⟩
   have key:TC w2 b n inn out A ⟨t.nw,ac t.mn f++[f],t.page,t.ev,t.gh⟩ tk sp gp/\Fr (FT A b) w w2:=by
    have h:=HH.out;obtain⟨n1,n2,n3,n4,n5,n6,n7,n8,n9,n10⟩:=h.lb.ne;have hl:=h.lists;rw[dz hl.2.2.2.1,ah HM.out.1]at hR;refine⟨⟨?_,hR,h.pg.fr f2 n5,h.be.fr f2 n6,h.gg.fr f2 (λi hi q=>n10 i q (.inl hi)) (λq=>n10 _ q (.inr (.inl rfl))) (λq=>n10 _ q (.inr (.inr rfl))),h.lb,λx hx=>(h.ou x hx).imp (λq=>q) (λq=>?_),h.hn,h.hi⟩,f2.mono (λi q=>.inr (.inr (.inr (.inl q))))⟩
    .show Blk w2 b 8 (twH A n inn out (cntL (t.nw++(ac t.mn f++[f])) t.ev))
     have e1:=lh h.rr.row2.2.1 t.ev f (λ_=>HM.out.2)
     have e2:cntL (t.nw++(ac t.mn f++[f])) t.ev=cntL (t.nw++t.mn) t.ev:=by
      rw[bE t.nw,bE t.nw];exact congrArg (λz=>cntL t.nw t.ev+z) e1
     rw[e2];exact h.hd.fr f2 n4
    .by_cases e:x=f
     .simp[e]
     .exact List.mem_append.2 (.inl (by simpa[ac]using⟨q,e⟩))
   have KEY:=Hd key;clear hR f2 key;go_wp2;go_returns;exact⟨rfl,⟨_,_,_,by rw[HE.out];exact KEY.out.1⟩,KEY.out.2⟩
  .rw[if_neg hm2]at HI
   have H:=Hd HI;have HE:Hid (t.acc f id=t.come f id):=by unfold Hid T6.acc;rw[if_neg hm,if_neg hm2]
   have HC:Hid (Calls prog 211 #[.pointer (some ⟨b,0,none⟩),.int .i64 f,.int .u32 id] w λe w'=>e=.returned (.tuple #[])/\(∃tk' sp' gp',TC w' b n inn out A (t.come f id) tk' sp' gp')/\Fr (FT A b) w w'):=by
    have hmm:¬(f∈t.nw\/f∈t.mn):=λq=>q.elim hm hm2
    by_cases hid:id∈t.gh
    .exact zo h hf hmm hid
    .exact Cq h hf hmm hu hid
   clear HI hm hm2 h hu;go_enter func204,ntmps204
   go_wp2_with(go_at_call 112;refine H.out.mono ?_;rintro e w'⟨rfl,rfl⟩)
   refine HC.out.mono ?_;clear HC H;rintro e w2⟨rfl,h2⟩;have KEY:=Hd h2;clear h2;go_wp2;go_returns;refine⟨rfl,?_⟩;rw[HE.out];exact KEY.out
theorem vP(l:List Nat)(ev:Nat->Bool):∃j,j<=l.length/\l.find? ev=l[j]?/\(∀(i x:Nat),i<j->l[i]?=some x->ev x=false)/\∀x,l[j]?=some x->ev x=true:=by
 induction l with
 |nil=>exact⟨0,by simp,by simp,λi x hi=>by omega,λx hx=>by simp at hx⟩
 |cons a l ih=>
  by_cases h:ev a=true
  .exact⟨0,by simp,by simp[h],λi x hi=>by omega,λx hx=>by simp at hx;rw[<-hx];exact h⟩
  .obtain⟨j,h1,h2,h3,h4⟩:=ih
   refine⟨j+1,by simp;omega,by simp[h,h2],λi x hi hx=>?_,λx hx=>h4 x (by simpa using hx)⟩
   cases i with
   |zero=>simp at hx;rw[<-hx];simpa using h
   |succ i=>exact h3 i x (by omega) (by simpa using hx)
theorem lu(h:TC w b n inn out A t tk sp gp)(k:Int){l:List Nat}(hl:bZ [t.nw,t.mn] k=l):
  Calls prog 217 #[.pointer (some ⟨b,0,none⟩),.int .i64 k] w λe w'=>e=.returned (.int .i64 (ixI (l.find? t.ev)))/\∃d,w.drewN d=w':=by
 obtain⟨j,hj,hfj,hbj,hej⟩:=vP l t.ev;have hln:=(dg h.rr k).1;rw[hl]at hln;have hn:=h.hn
 have hln2:∀x∈l,x<n:=by
  intro x hx;have hL:=h.lists;rw[<-hl]at hx;unfold bZ at hx
  split at hx
  .rename_i hk
   obtain⟨kk,rfl⟩:=Int.eq_ofNat_of_zero_le hk;rw[show((kk:Nat):Int).toNat=kk from by omega]at hx
   match kk,hx with
   |0,hx=>exact hL.2.1 x hx
   |1,hx=>exact hL.2.2.1 x hx
   |kk+2,hx=>simp at hx
  .cases hx
 have HFI:=bi h.rr k;rw[hl,List.head?_eq_getElem?]at HFI;have HF1:=Hd HFI
 have HNX:Hid (∀(i x:Nat) (d:Nat),l[i]?=some x->Calls prog 174 #[.pointer (some ⟨A.rb,0,none⟩),.int .i64 x] (w.drewN d) λe w'=>e=.returned (.int .i64 (ixI l[i+1]?))/\w.drewN d=w'):=by
  intro i x d hi;have hR:=h.rr.fr ((Fr.refl NoF w).drewN d) (λ_ _ q=>q);have:=(dg hR k).2 i x (by rw[hl];exact hi);rw[hl]at this;rw[<-this];exact ii hR x
 have c1:w.cell? ⟨b,1,none⟩=some (.pointer (some ⟨A.rb,0,none⟩)):=h.c 1 (by omega);have c3:w.cell? ⟨b,3,none⟩=some (.slice (some ⟨A.eb,0,none⟩) n n):=h.c 3 (by omega)
 have HCE:Hid (∀(i x:Nat),l[i]?=some x->x<n/\w.cell? ⟨A.eb,x,none⟩=some (.bool (t.ev x))):=λi x hx=>by
  have hxn:=hln2 x (List.mem_of_getElem? hx);exact⟨hxn,h.ce hxn⟩
 have HB:=Hd hbj;have HE:=Hd hej;have HFJ:=Hd hfj;clear h HFI hbj hej hfj hl hln2;go_enter func217,ntmps217
 go_wp2_with(go_at_call 173;refine HF1.out.mono ?_;rintro e w'⟨rfl,d,rfl⟩)
 clear HF1
 go_loopg [5] j (λg i wr=>∃k:Nat,k<=j/\g=j-k/\i=.int .i64 (ixI l[k]?)/\∃d,w.drewN d=wr)
 case atStart=>exact⟨0,Nat.zero_le _,by omega,rfl,d,rfl⟩
 case round=>
  obtain⟨k,hk,rfl,rfl,d,rfl⟩:=hrel;by_cases hkj:k<j
  .have hkl:k<l.length:=by omega
   obtain⟨hxn,hce⟩:=HCE.out k l[k] (List.getElem?_eq_getElem hkl);rw[HB.out k l[k] hkj (List.getElem?_eq_getElem hkl)]at hce;have HN:=Hd (HNX.out k l[k] d (List.getElem?_eq_getElem hkl));rw[show ixI l[k]?=(l[k]:Nat)from by simp[ixI,hkl]];generalize l[k]=x at*
   go_wp2_with(go_at_call 174;refine HN.out.mono ?_;rintro e w'⟨rfl,rfl⟩)
   go_roundg (j-(k+1))
   case measure=>omega
   case rel=>exact⟨k+1,by omega,rfl,rfl,d,rfl⟩
  .obtain rfl:k=j:=by omega
   cases e:l[k]? with
   |none=>
    have HR:Hid (l.find? t.ev=none):=HFJ.out.trans e;rw[show ixI (none:Option Nat)= -1 from rfl];clear e;go_wp2;go_returns;exact⟨by rw[HR.out];rfl,_,rfl⟩
   |some x=>
    obtain⟨hxn,hce⟩:=HCE.out k x e;rw[HE.out x e]at hce;have HR:Hid (l.find? t.ev=some x):=HFJ.out.trans e;rw[show ixI (some x)=(x:Int)from rfl];clear e;go_wp2;go_returns;exact⟨by rw[HR.out];rfl,_,rfl⟩
end
noncomputable def oA(rb b pb eb gr gpb mb:Nat)(FR FG:Nat->Prop):TA:=⟨rb,pb,eb,gr,gpb,mb,FR,FG,λi=>open Classical in if i=b then 0 else if i=pb then 1 else if i=eb then 2 else if FR i then 3 else if FG i then 4 else if i=gpb then 5 else if i=mb then 6 else 7⟩
theorem vq{wz:World}{rb b pb eb gr gpb mb n z z0 inn out:Nat}{FR FG:Nat->Prop}{ty:TypeId}(d1:¬b=pb)(d2:¬b=eb)(d3:¬pb=eb)(l1:z<=b)(l2:z<=pb)(l3:z<=eb)(hz:z0<=z)(hr:∀i,FR i->z0<=i/\i<z)(hg:∀i,FGm FG gpb mb i->z0<=i/\i<z/\¬FR i)(e1:¬FG gpb)(e2:¬FG mb)(e3:¬mb=gpb)
  (g1:wz.heap[pb]?=some (.cells (madeCells #[.int .u32 0] n) 34 (0,0)))(g2:wz.heap[eb]?=some (.cells (madeCells #[.bool false] n) 4 (0,0)))
  (g3:wz.heap[b]?=some (.cells #[.int .i64 inn,.pointer (some ⟨rb,0,none⟩),.slice (some ⟨pb,0,none⟩) n n,.slice (some ⟨eb,0,none⟩) n n,.int .i64 0,.pointer (some ⟨gr,0,none⟩),.slice (some ⟨gpb,0,none⟩) out out,.map (some mb)] ty (0,0))):
  TL b (oA rb b pb eb gr gpb mb FR FG)/\Blk wz b 8 (twH (oA rb b pb eb gr gpb mb FR FG) n inn out 0)/\Blk wz pb n (uN λ_=>0)/\Blk wz eb n (bF λ_=>false)/\∀i,FT (oA rb b pb eb gr gpb mb FR FG) b i->z0<=i:=by
 have hR:∀i,FR i->¬i=b/\¬i=pb/\¬i=eb:=λi q=>by have:=hr i q;exact⟨by omega,by omega,by omega⟩
 have hG:∀i,FGm FG gpb mb i->¬i=b/\¬i=pb/\¬i=eb/\¬FR i:=λi q=>by obtain⟨_,h2,h3⟩:=hg i q;exact⟨by omega,by omega,by omega,h3⟩
 refine⟨⟨if_pos rfl,?_,?_,λi (q:FR i)=>?_,λi (q:FG i)=>?_,?_,?_⟩,⟨_,_,g3,rfl,λi hi=>?_⟩,⟨_,_,g1,by simp[size_madeCells],λi hi=>?_⟩,⟨_,_,g2,by simp[size_madeCells],λi hi=>?_⟩,λi q=>?_⟩
 .dsimp only[oA]
  rw[if_neg (λe=>d1 e.symm),if_pos rfl]
 .dsimp only[oA]
  rw[if_neg (λe=>d2 e.symm),if_neg (λe=>d3 e.symm),if_pos rfl]
 .obtain⟨q1,q2,q3⟩:=hR i q
  dsimp only[oA]
  rw[if_neg q1,if_neg q2,if_neg q3,if_pos q]
 .obtain⟨q1,q2,q3,q4⟩:=hG i (.inl q)
  dsimp only[oA]
  rw[if_neg q1,if_neg q2,if_neg q3,if_neg q4,if_pos q]
 .obtain⟨q1,q2,q3,q4⟩:=hG gpb (.inr (.inl rfl))
  dsimp only[oA]
  rw[if_neg q1,if_neg q2,if_neg q3,if_neg q4,if_neg e1,if_pos rfl]
 .obtain⟨q1,q2,q3,q4⟩:=hG mb (.inr (.inr rfl))
  dsimp only[oA]
  rw[if_neg q1,if_neg q2,if_neg q3,if_neg q4,if_neg e2,if_neg e3,if_pos rfl]
 .match i,hi with
  |0,_|1,_|2,_|3,_|4,_|5,_|6,_|7,_=>rfl
 .rw[du hi,show(#[Value.int .u32 0]:Array Value).size=1 from rfl,Nat.mod_one];rfl
 .rw[du hi,show(#[Value.bool false]:Array Value).size=1 from rfl,Nat.mod_one];rfl
 .rcases q with e|e|e|q|q
  .rw[e];omega
  .rw[e];show z0<=pb;omega
  .rw[e];show z0<=eb;omega
  .exact(hr i q).1
  .exact(hg i q).1
section
variable{w w':World}{b n inn out:Nat}{A:TA}{t:T6}{tk sp:List Nat}{gp:Nat->Nat}
theorem m8(h:TC w b n inn out A t tk sp gp)(d:Nat):(Calls prog 217 #[.pointer (some ⟨b,0,none⟩),.int .i64 0] (w.drewN d) λe w'=>e=.returned (.int .i64 (ixI (t.nw.find? t.ev)))/\∃d,w.drewN d=w')/\
  Calls prog 217 #[.pointer (some ⟨b,0,none⟩),.int .i64 1] (w.drewN d) λe w'=>e=.returned (.int .i64 (ixI (t.mn.find? t.ev)))/\∃d,w.drewN d=w':=by
 have h1:=h.fr0 ((Fr.refl NoF w).drewN d);refine⟨(lu h1 0 (l:=t.nw) rfl).mono λe w' ⟨he,d',hw⟩=>⟨he,d+d',?_⟩,(lu h1 1 (l:=t.mn) rfl).mono λe w' ⟨he,d',hw⟩=>⟨he,d+d',?_⟩⟩
 .rw[<-hw,World.drewN_drewN]
 .rw[<-hw,World.drewN_drewN]
theorem tC(h:TC w b n inn out A t tk sp gp):Calls prog 213 #[.pointer (some ⟨b,0,none⟩)] w λe w'=>e=.returned (.int .i64 (ixI (t.goes inn)))/\∃d,w.drewN d=w':=by
 have c0:w.cell? ⟨b,0,none⟩=some (.int .i64 inn):=h.c 0 (by omega);have c1:w.cell? ⟨b,1,none⟩=some (.pointer (some ⟨A.rb,0,none⟩)):=h.c 1 (by omega);have HL:Hid (∀d,Calls prog 216 #[.pointer (some ⟨A.rb,0,none⟩),.int .i64 0] (w.drewN d) λe w'=>e=.returned (.int .i64 (t.nw.length:Nat))/\w.drewN d=w'):=λd=>dt (h.rr.fr ((Fr.refl NoF w).drewN d) (λ_ _ q=>q)) 0
 have HE0:=Hd (λd=>(m8 h d).1);have HE1:=Hd (λd=>(m8 h d).2);have hln:=h.lists.2.2.2.2;rw[List.length_append]at hln;have hn:=h.hn;have hi:=h.hi;have HG:Hid (t.goes inn=if inn<t.nw.length then(t.nw.find? t.ev).or (t.mn.find? t.ev)else(t.mn.find? t.ev).or (t.nw.find? t.ev)):=rfl;clear h;rw[HG.out];clear HG;generalize t.nw.length=L at*;generalize t.nw.find? t.ev=X at*;generalize t.mn.find? t.ev=Y at*;by_cases hlt:inn<L
 .rw[if_pos hlt]
  cases X with
  |none=>
   rw[show ixI (none:Option Nat)= -1 from rfl]at HE0;rw[show Option.or none Y=Y from rfl];go_enter func213,ntmps213;go_wp2
   go_quiet ((go_at_call 216;exact qs (HL.out _)))
   go_wp2_with fail
   refine(HE0.out _).mono ?_;rintro e w1⟨rfl,d1,rfl⟩
   go_wp2_with fail
   refine(HE1.out _).mono ?_;rintro e w2⟨rfl,d2,rfl⟩;go_wp2;go_returns;exact⟨rfl,_,rfl⟩
  |some x=>
   rw[show ixI (some x)=(x:Int)from rfl]at HE0;rw[show ixI (Option.or (some x) Y)=(x:Int)from rfl];go_enter func213,ntmps213;go_wp2
   go_quiet ((go_at_call 216;exact qs (HL.out _)))
   go_wp2_with fail
   refine(HE0.out _).mono ?_;rintro e w1⟨rfl,d1,rfl⟩;go_wp2;go_returns;exact⟨rfl,_,rfl⟩
 .rw[if_neg hlt]
  cases Y with
  |none=>
   rw[show ixI (none:Option Nat)= -1 from rfl]at HE1;rw[show Option.or none X=X from rfl];go_enter func213,ntmps213;go_wp2
   go_quiet ((go_at_call 216;exact qs (HL.out _)))
   go_wp2_with fail
   refine(HE1.out _).mono ?_;rintro e w1⟨rfl,d1,rfl⟩
   go_wp2_with fail
   refine(HE0.out _).mono ?_;rintro e w2⟨rfl,d2,rfl⟩;go_wp2;go_returns;exact⟨rfl,_,rfl⟩
  |some x=>
   rw[show ixI (some x)=(x:Int)from rfl]at HE1;rw[show ixI (Option.or (some x) X)=(x:Int)from rfl];go_enter func213,ntmps213;go_wp2
   go_quiet ((go_at_call 216;exact qs (HL.out _)))
   go_wp2_with fail
   refine(HE1.out _).mono ?_;rintro e w1⟨rfl,d1,rfl⟩;go_wp2;go_returns;exact⟨rfl,_,rfl⟩
theorem nc{t:T6}{inn:Nat}:t.goes inn=none↔cntL (t.nw++t.mn) t.ev=0:=by
 have h1:t.goes inn=none↔(∀x∈t.nw,¬t.ev x=true)/\∀x∈t.mn,¬t.ev x=true:=by
  unfold T6.goes
  split<;>rw[Option.or_eq_none_iff,List.find?_eq_none,List.find?_eq_none]
  exact⟨λq=>⟨q.2,q.1⟩,λq=>⟨q.2,q.1⟩⟩
 rw[h1];unfold cntL;rw[List.length_eq_zero_iff,List.filter_eq_nil_iff];constructor
 .rintro⟨q1,q2⟩x hx
  exact(List.mem_append.1 hx).elim (q1 x) (q2 x)
 .intro q
  exact⟨λx hx=>q x (List.mem_append.2 (.inl hx)),λx hx=>q x (List.mem_append.2 (.inr hx))⟩
theorem px{t:T6}{inn f:Nat}(h:t.goes inn=some f):f∈t.nw\/f∈t.mn:=by
 unfold T6.goes at h
 split at h
 .rcases Option.or_eq_some_iff.1 h with q|⟨_,q⟩
  .exact .inl (List.mem_of_find?_eq_some q)
  .exact .inr (List.mem_of_find?_eq_some q)
 .rcases Option.or_eq_some_iff.1 h with q|⟨_,q⟩
  .exact .inr (List.mem_of_find?_eq_some q)
  .exact .inl (List.mem_of_find?_eq_some q)
theorem ph(h:TC w b n inn out A t tk sp gp)(p:Int)(hv:t.goes inn=none):Calls prog 210 #[.pointer (some ⟨b,0,none⟩),.int .u32 p] w λe w'=>e=.returned (.tuple #[.int .i64 0,.bool false])/\w=w':=by
 have HZ:=vu h;rw[nc.1 hv]at HZ;have H:=Hd HZ;clear HZ hv h;go_enter func210,ntmps210
 go_wp2_with(go_at_call 209;refine H.out.mono ?_;rintro e w'⟨rfl,rfl⟩)
 go_returns;exact⟨rfl,rfl⟩
theorem TC.remd(h:TC w b n inn out A t tk sp gp){gh':List Nat}(hr:vU w A.gr A.gpb A.mb out gh' A.FG w'):∃tk' sp' gp',TC w' b n inn out A ⟨t.nw,t.mn,t.page,t.ev,gh'⟩ tk' sp' gp'/\Fr (FT A b) w w':=by
 obtain⟨tk',sp',gp',hg,hf⟩:=hr;obtain⟨n1,n2,n3,n4,n5,n6,n7,n8,n9,n10⟩:=h.lb.ne;exact⟨tk',sp',gp',⟨h.hd.fr hf n7,h.rr.fr hf n10,h.pg.fr hf n8,h.be.fr hf n9,hg,h.lb,h.ou,h.hn,h.hi⟩,hf.mono (λi q=>.inr (.inr (.inr (.inr q))))⟩
theorem mh(h:TC w b n inn out A t tk sp gp)(hi:TI t)(p:Int){f:Nat}(hv:t.goes inn=some f):Calls prog 210 #[.pointer (some ⟨b,0,none⟩),.int .u32 p] w λe w'=>e=.returned (.tuple #[.int .i64 f,.bool true])/\(∃tk' sp' gp',TC w' b n inn out A (t.gone out f) tk' sp' gp')/\Fr (FT A b) w w':=by
 have hm:=px hv;have hfn:f<n:=hm.elim (h.lists.2.1 f) (h.lists.2.2.1 f);have hn:=h.hn;have hcnt:¬cntL (t.nw++t.mn) t.ev=0:=λq=>by rw[nc.2 q]at hv;cases hv
 have hcl:=ju (t.nw++t.mn) t.ev;have hln:=h.lists.2.2.2.2;have HZ:=Hd (vu h);have HGO:=tC h;rw[hv,show ixI (some f)=(f:Int)from rfl]at HGO;have HGO:=Hd HGO
 have HI:Hid (∀d,Calls prog 112 #[.pointer (some ⟨A.rb,0,none⟩),.int .i64 f] (w.drewN d) λe w'=>e=.returned (.int .i64 (if f∈t.nw then 0 else if f∈t.mn then 1 else-1))/\w.drewN d=w'):=by
  intro d;have:=fj (h.rr.fr ((Fr.refl NoF w).drewN d) (λ_ _ q=>q)) f;rw[ix2]at this;exact this
 have c1:w.cell? ⟨b,1,none⟩=some (.pointer (some ⟨A.rb,0,none⟩)):=h.c 1 (by omega);have c2:w.cell? ⟨b,2,none⟩=some (.slice (some ⟨A.pb,0,none⟩) n n):=h.c 2 (by omega);have cp:=h.cp hfn;generalize hz:cntL (t.nw++t.mn) t.ev=z at*;have hcnt2:((z:Int)==0)=false:=by simp;omega
 have hz0:¬(z:Int)=0:=by omega
 have HH:=Hd h;have HTI:=Hd hi;have HM:=Hd hm;clear hz h hi hv hm;by_cases hw:f∈t.nw
 .have HE:Hid (t.gone out f=(⟨t.nw,t.mn,t.page,t.ev,aV out (t.gh++[t.page f])⟩:T6).rem f):=by unfold Hid T6.gone;rw[if_pos hw]
  have HREM:Hid (∀w',Fr NoF w w'->Calls prog 214 #[.pointer (some ⟨b,5,none⟩),.int .u32 (t.page f:Nat)] w' λe w''=>e=.returned (.tuple #[])/\∃tk' sp' gp',TC w'' b n inn out A ⟨t.nw,t.mn,t.page,t.ev,aV out (t.gh++[t.page f])⟩ tk' sp' gp'/\Fr (FT A b) w w''):=by
   intro w' q;have h1:=HH.out.fr0 q;obtain⟨u1,u2⟩:=HTI.out.u f (.inl hw);refine(oz h1.gg h1.gH u1 u2).mono λe w'' ⟨he,hr⟩=>⟨he,?_⟩
   obtain⟨tk',sp',gp',h2,f2⟩:=h1.remd hr;exact⟨tk',sp',gp',h2,(q.mono (λ_ q=>q.elim)).trans f2 (λ_ q=>.inl q)⟩
  have HI2:Hid (∀d,Calls prog 112 #[.pointer (some ⟨A.rb,0,none⟩),.int .i64 f] (w.drewN d) λe w'=>e=.returned (.int .i64 0)/\w.drewN d=w'):=by
   intro d;have:=HI.out d;rw[if_pos hw]at this;exact this
  generalize t.page f=x at*;clear HI hw;go_enter func210,ntmps210
  go_wp2_with(first
   |(go_at_call 209;refine HZ.out.mono ?_;rintro e w'⟨rfl,rfl⟩)
   |(go_at_call 213;refine HGO.out.mono ?_;rintro e w'⟨rfl,d,rfl⟩)
   |(go_at_call 112;refine(HI2.out _).mono ?_;rintro e w'⟨rfl,rfl⟩))
  go_region_with (go_at_call 214;(with_reducible refine(HREM.out _ ((Fr.refl NoF w).drewN _)).mono ?_);rintro e w2⟨rfl,tk2,sp2,gp2,h2,f2⟩;have H2:=Hd h2;have F2:=Hd f2;clear h2 f2)
  all_goals
   have HR:=Hd (jy H2.out f hfn)
   go_wp2_with fail
   refine HR.out.mono ?_;rintro e w3⟨rfl,h3,f3⟩;have KEY:=Hd (And.intro h3 (F2.out.trans f3 (λ_ q=>.inl q)));clear h3 f3 HR;go_wp2;go_returns;exact⟨rfl,⟨_,_,_,by rw[HE.out];exact KEY.out.1⟩,KEY.out.2⟩
 .have HE:Hid (t.gone out f=t.rem f):=by unfold Hid T6.gone;rw[if_neg hw]
  have HI2:Hid (∀d,Calls prog 112 #[.pointer (some ⟨A.rb,0,none⟩),.int .i64 f] (w.drewN d) λe w'=>e=.returned (.int .i64 1)/\w.drewN d=w'):=by
   intro d;have:=HI.out d;rw[if_neg hw,if_pos (HM.out.resolve_left hw)]at this;exact this
  have HR:Hid (∀d,Calls prog 207 #[.pointer (some ⟨b,0,none⟩),.int .i64 f] (w.drewN d) λe w'=>e=.returned (.tuple #[])/\TC w' b n inn out A (t.rem f) tk sp gp/\Fr (FT A b) w w'):=by
   intro d;have q:Fr NoF w (w.drewN d):=(Fr.refl NoF w).drewN d;exact(jy (HH.out.fr0 q) f hfn).mono λe w' ⟨he,h3,f3⟩=>⟨he,h3,(q.mono (λ_ q=>q.elim)).trans f3 (λ_ q=>.inl q)⟩
  clear HI hw;go_enter func210,ntmps210
  go_wp2_with(first
   |(go_at_call 209;refine HZ.out.mono ?_;rintro e w'⟨rfl,rfl⟩)
   |(go_at_call 213;refine HGO.out.mono ?_;rintro e w'⟨rfl,d,rfl⟩)
   |(go_at_call 112;refine(HI2.out _).mono ?_;rintro e w'⟨rfl,rfl⟩))
  refine(HR.out _).mono ?_;rintro e w3⟨rfl,h3,f3⟩;have KEY:=Hd (And.intro h3 f3);clear h3 f3;go_wp2;go_returns;exact⟨rfl,⟨_,_,_,by rw[HE.out];exact KEY.out.1⟩,KEY.out.2⟩
end
theorem dV{t:T6}{f x:Nat}(h:x∈(t.rem f).nw\/x∈(t.rem f).mn):x∈t.nw\/x∈t.mn:=by
 unfold T6.rem at h
 split at h
 .exact h.imp (λq=>(List.mem_filter.1 q).1) (λq=>(List.mem_filter.1 q).1)
 .exact h
theorem Fs{t:T6}{f x:Nat}(hf:f∈t.nw\/f∈t.mn)(h:x∈(t.rem f).nw\/x∈(t.rem f).mn):¬x=f:=by
 rintro rfl;unfold T6.rem at h;rw[if_pos hf]at h;simp[ac]at h
theorem pE(t:T6)(f:Nat):(t.rem f).page=t.page/\(t.rem f).gh=t.gh:=by unfold T6.rem;split<;>exact⟨rfl,rfl⟩
theorem TI.rem{t:T6}(h:TI t)(f:Nat):TI (t.rem f):=by
 obtain⟨e1,e2⟩:=pE t f;refine⟨λx hx=>?_,λx y hx hy e=>?_⟩
 .rw[e1,e2];exact h.u x (dV hx)
 .rw[e1]at e;exact h.ij x y (dV hx) (dV hy) e
theorem TI.setE{t:T6}(h:TI t)(f:Nat)(v:Bool):TI (t.setE f v):=by
 unfold T6.setE;split<;>exact⟨h.u,h.ij⟩
theorem tO{out:Nat}{l:List Nat}{x:Nat}(h:x∈aV out l):x∈l:=by
 unfold aV at h;split at h
 .exact List.mem_of_mem_drop h
 .exact h
theorem TI.gone{t:T6}(h:TI t)(out:Nat){f:Nat}(hf:f∈t.nw\/f∈t.mn):TI (t.gone out f):=by
 unfold T6.gone
 split
 .rename_i hw
  have hf':f∈(⟨t.nw,t.mn,t.page,t.ev,aV out (t.gh++[t.page f])⟩:T6).nw\/f∈(⟨t.nw,t.mn,t.page,t.ev,aV out (t.gh++[t.page f])⟩:T6).mn:=hf;obtain⟨e1,e2⟩:=pE (⟨t.nw,t.mn,t.page,t.ev,aV out (t.gh++[t.page f])⟩:T6) f;refine⟨λx hx=>?_,λx y hx hy e=>?_⟩
  .have hx0:x∈t.nw\/x∈t.mn:=@dV ⟨t.nw,t.mn,t.page,t.ev,aV out (t.gh++[t.page f])⟩ f x hx
   rw[e1,e2];refine⟨(h.u x hx0).1,λq=>?_⟩;rcases List.mem_append.1 (tO q)with q|q
   .exact(h.u x hx0).2 q
   .have q:t.page x=t.page f:=by simpa using q
    exact Fs hf' hx (h.ij x f hx0 hf q)
  .rw[e1]at e
   exact h.ij x y (@dV ⟨t.nw,t.mn,t.page,t.ev,aV out (t.gh++[t.page f])⟩ f x hx) (@dV ⟨t.nw,t.mn,t.page,t.ev,aV out (t.gh++[t.page f])⟩ f y hy) e
 .exact h.rem f
theorem TI.acc{t:T6}(h:TI t){f id:Nat}(hu:aK id)(hp:(f∈t.nw\/f∈t.mn)\/∀g,g∈t.nw\/g∈t.mn->¬t.page g=id):TI (t.acc f id):=by
 unfold T6.acc
 split
 .exact h
 .rename_i h1
  split
  .rename_i h2
   have hmem:∀x,x∈t.nw\/x∈ac t.mn f++[f]->x∈t.nw\/x∈t.mn:=by
    intro x hx;rcases hx with q|q
    .exact .inl q
    .rcases List.mem_append.1 q with q|q
     .exact .inr (List.mem_filter.1 q).1
     .rw[List.mem_singleton.1 q];exact .inr h2
   exact⟨λx hx=>h.u x (hmem x hx),λx y hx hy e=>h.ij x y (hmem x hx) (hmem y hy) e⟩
  .rename_i h2
   have hp':=hp.resolve_left (λq=>q.elim h1 h2)
   have key:∀(nw' mn' gh':List Nat),(∀x,x∈nw'\/x∈mn'->(x∈t.nw\/x∈t.mn)\/x=f)->(∀y∈gh',y∈t.gh/\¬y=id)->TI ⟨nw',mn',upd t.page f id,t.ev,gh'⟩:=by
    intro nw' mn' gh' hmem hgh;refine⟨λx hx=>?_,λx y hx hy e=>?_⟩
    .show aK (upd t.page f id x)/\¬upd t.page f id x∈gh'
     by_cases e:x=f
     .subst e;rw[upd_same];exact⟨hu,λq=>(hgh _ q).2 rfl⟩
     .rw[aa _ _ e]
      have hx0:=(hmem x hx).resolve_right e;exact⟨(h.u x hx0).1,λq=>(h.u x hx0).2 (hgh _ q).1⟩
    .have e:upd t.page f id x=upd t.page f id y:=e
     by_cases ex:x=f
     .by_cases ey:y=f
      .rw[ex,ey]
      .rw[ex,upd_same,aa _ _ ey]at e
       exact(hp' y ((hmem y hy).resolve_right ey) e.symm).elim
     .by_cases ey:y=f
      .rw[ey,upd_same,aa _ _ ex]at e
       exact(hp' x ((hmem x hx).resolve_right ex) e).elim
      .rw[aa _ _ ex,aa _ _ ey]at e
       exact h.ij x y ((hmem x hx).resolve_right ex) ((hmem y hy).resolve_right ey) e
   unfold T6.come
   split
   .refine key _ _ _ (λx hx=>?_) (λy hy=>by simpa[ac]using hy)
    rcases hx with q|q
    .exact .inl (.inl q)
    .rcases List.mem_append.1 q with q|q
     .exact .inl (.inr q)
     .exact .inr (List.mem_singleton.1 q)
   .rename_i hid
    refine key _ _ _ (λx hx=>?_) (λy hy=>⟨hy,λe=>hid (e▸hy)⟩);rcases hx with q|q
    .rcases List.mem_append.1 q with q|q
     .exact .inl (.inl q)
     .exact .inr (List.mem_singleton.1 q)
    .exact .inl (.inr q)
def vW(inn out:Nat):Pol T6 where
 miss t _:=t
 access t f id:=t.acc f id
 set t f v:=t.setE f v
 victim t _:=t.goes inn
 gone t _:=match t.goes inn with|none=>t|some f=>t.gone out f
 remove t f:=t.rem f
 size t:=cntL (t.nw++t.mn) t.ev
 ghosts t:=t.gh
def Fw(n:Nat)(t:T6)(c:Cl):Prop:=((c.kind=1\/c.kind=2\/c.kind=4)->c.frame<n)/\(c.kind=1->aK c.page/\((c.frame∈t.nw\/c.frame∈t.mn)\/∀g,g∈t.nw\/g∈t.mn->¬t.page g=c.page))
def CRT(b n inn out:Nat)(w:World)(t:T6)(F:Nat->Prop):Prop:=∃A tk sp gp,TC w b n inn out A t tk sp gp/\TI t/\∀i,F i↔FT A b i
theorem GC(b n inn out:Nat):ya (vW inn out) (CRT b n inn out) b (Fw n) 206 204 208 210 207 where
 fr:=by
  rintro w w' t F G⟨A,tk,sp,gp,h,hi,hF⟩f hd;exact⟨A,tk,sp,gp,h.fr f (λi q=>hd i ((hF i).2 q)),hi,hF⟩
 lt:=by
  rintro w t F⟨A,tk,sp,gp,h,hi,hF⟩i q;exact h.lt i ((hF i).1 q)
 miss:=by
  intro w t F c h hp hk;exact(Dj _ _).mono λe w' ⟨he,hw⟩=>⟨he,F,hw▸h,hw▸Fr.refl _ _,λi hi=>.inl hi⟩
 access:=by
  rintro w t F c⟨A,tk,sp,gp,h,hi,hF⟩hp hk;obtain⟨hu,hq⟩:=hp.2 hk;exact(wu h (hp.1 (.inl hk)) hu).mono λe w' ⟨he,⟨tk',sp',gp',h'⟩,hf⟩=>⟨he,F,⟨A,tk',sp',gp',h',hi.acc hu hq,hF⟩,hf.mono (λi q=>(hF i).2 q),λi hi=>.inl hi⟩
 set:=by
  rintro w t F c⟨A,tk,sp,gp,h,hi,hF⟩hp hk;exact(AI h c.frame (hp.1 (.inr (.inl hk))) c.on).mono λe w' ⟨he,h',hf⟩=>⟨he,F,⟨A,tk,sp,gp,h',hi.setE _ _,hF⟩,hf.mono (λi q=>(hF i).2 (q.elim (λq=>.inr (.inr (.inl q))) (λq=>.inl q))),λi hi=>.inl hi⟩
 victimNo:=by
  rintro w t F c⟨A,tk,sp,gp,h,hi,hF⟩hp hk hv;exact(ph h _ hv).mono λe w' ⟨he,hw⟩=>⟨he,F,hw▸⟨A,tk,sp,gp,h,hi,hF⟩,hw▸Fr.refl _ _,λi hi=>.inl hi⟩
 victimYes:=by
  rintro w t F c a⟨A,tk,sp,gp,h,hi,hF⟩hp hk hv;have hv:t.goes inn=some a:=hv;have hg:(vW inn out).gone t c.page=t.gone out a:=by show(match t.goes inn with|none=>t|some f=>t.gone out f)=_;rw[hv]
  rw[hg];exact(mh h hi _ hv).mono λe w' ⟨he,⟨tk',sp',gp',h'⟩,hf⟩=>⟨he,F,⟨A,tk',sp',gp',h',hi.gone out (px hv),hF⟩,hf.mono (λi q=>(hF i).2 q),λi hi=>.inl hi⟩
 remove:=by
  rintro w t F c⟨A,tk,sp,gp,h,hi,hF⟩hp hk;exact(jy h c.frame (hp.1 (.inr (.inr hk)))).mono λe w' ⟨he,h',hf⟩=>⟨he,F,⟨A,tk,sp,gp,h',hi.rem _,hF⟩,hf.mono (λi q=>(hF i).2 q),λi hi=>.inl hi⟩
end
end Go.Proofs.YtoenclhimbpfeaaGreatDoor
