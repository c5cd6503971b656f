/- Part 44. -/
import Derived.Test.YtkjhnllcphidpaaGreatDoorQ43
namespace Go.Proofs.YtkjhnllcphidpaaGreatDoor
set_option linter.all false
set_option maxHeartbeats 16000000
set_option maxRecDepth 100000
section
open Go.Maps Go.Proofs.Tryz Go.RowKit
theorem EIc:EI prog 136 137 1 8:=EI.mk' (z:=.pointer none) underlying136 (by kernel_rfl) rfl (by decide)
theorem FJ(pv cv cv':Value)(la:Option Nat)(lv:Value):upd (frC pv cv la lv) 1 cv'=frC pv cv' la lv:=by
 funext j
 unfold upd
 match j with
 |0|1|2|3=>rfl
 |_+4=>simp[frC]
theorem td(j:Nat)(cb:Nat->Nat)(b:Nat):ptrsC (j+1) (upd cb j b)=ptrsC j cb++[.pointer (some ⟨b,0,none⟩)]:=by
 unfold ptrsC;rw[List.range_succ,List.map_append]
 congr 1
 .refine List.map_congr_left λi hi=>?_
  have:¬i=j:=by have:=List.mem_range.1 hi;omega
  rw[ab _ _ this]
 .simp only[List.map_cons,List.map_nil,upd_same]
structure pd(w wr:World)(pv:Value)(L:Nat->List OpF)(fb j:Nat)(lv:Value)(cb mb:Nat->Nat)(oa:Nat->Option Addr)(oc:Nat->Nat)(kd:Nat->Nat):Prop where
 fd:Blk wr fb 4 (frC pv lv none (.slice none 0 0))
 ls:wr.ownsRow w.heap.size 137 1 lv j (ptrsC j cb)
 cl:∀i,i<j->sL wr i (L i) (cb i) (mb i) (oa i) (oc i)
 k1:kd fb=1
 kc:∀i,i<j->kd (cb i)=5+2*i
 km:∀i,i<j->kd (mb i)=6+2*i
 ko:∀i,i<j->∀x,(Value.slice (oa i) (L i).length (oc i)).ownBlock=some x->kd x=0/\w.heap.size<=x
 kl:∀x,lv.ownBlock=some x->kd x=4
 lo:∀x,¬kd x=0->w.heap.size<=x/\x<wr.heap.size
 fr:Fr NoF w wr
theorem pd.step{w wr w1 w2:World}{pv lv lv':Value}{L:Nat->List OpF}{fb j cj mj cc:Nat}{aj:Option Addr}{cb mb:Nat->Nat}{oa:Nat->Option Addr}{oc kd:Nat->Nat}(h:pd w wr pv L fb j lv cb mb oa oc kd)
  (hc:sL w1 j (L j) cj mj aj cc)(h1:wr.heap.size<=mj)(h2:mj<cj)(h3:∀x,(Value.slice aj (L j).length cc).ownBlock=some x->wr.heap.size<=x/\x<mj)(f:Fr NoF wr w1)
  (hl:w2.ownsRow w.heap.size 137 1 lv' (j+1) (ptrsC j cb++[.pointer (some ⟨cj,0,none⟩)]))(f2:Fr (λb=>lv.ownBlock=some b) w1 w2)(ho:∀b,lv'.ownBlock=some b->lv.ownBlock=some b\/w1.heap.size<=b):
  ∃cb' mb' oa' oc' kd',pd w (w2.setCell ⟨fb,1,none⟩ lv') pv L fb (j+1) lv' cb' mb' oa' oc' kd':=by
 have lf:=h.fd.lt;have kf:=h.k1;have lc:=hc.1.lt;have hs1:=f.size;have hs2:=f2.size;have sl:(w2.setCell ⟨fb,1,none⟩ lv').heap.size=w2.heap.size:=by simp[World.setCell]
 have f3:Fr (λb=>b=fb) w2 (w2.setCell ⟨fb,1,none⟩ lv'):=(Fr.refl (λb=>b=fb) w2).setCell (p:=⟨fb,1,none⟩) (.inl rfl) _;have nl:∀x,lv.ownBlock=some x->kd x=4/\x<wr.heap.size:=λx z=>⟨h.kl x z,(h.lo x (by rw[h.kl x z];omega)).2⟩
 have nl':∀x,lv'.ownBlock=some x->(kd x=4/\x<wr.heap.size)\/w1.heap.size<=x:=λx z=>(ho x z).imp (nl x) id
 have up:∀{x},lv'.ownBlock=some x->x<w2.heap.size:=λ{x} z=>SlC.lt (SlC.ofOwn hl (by
  intro u hu;rcases List.mem_append.1 hu with z|z
  .obtain⟨i,_,rfl⟩:=List.mem_map.1 z;rfl
  .simp at z;subst z;rfl)) x z
 refine⟨upd cb j cj,upd mb j mj,upd oa j aj,upd oc j cc,λx=>if lv'.ownBlock=some x then 4 else if x=cj then 5+2*j else if x=mj then 6+2*j else kd x,?_⟩
 have old:∀x,x<wr.heap.size->¬kd x=4->(if lv'.ownBlock=some x then 4 else if x=cj then 5+2*j else if x=mj then 6+2*j else kd x)=kd x:=λx z1 z2=>by
  rw[if_neg (λz=>by rcases nl' x z with y|y<;>omega),if_neg (by omega),if_neg (by omega)]
 exact{
  fd:=by
   have z:=((h.fd.fr f id).fr f2 (λz=>by have:=nl fb z;omega)).set 1 lv';rw[FJ]at z;exact z
  ls:=by
   rw[td];exact am hl f3 (λb z y=>by subst y;rcases nl' _ z with y|y<;>omega)
  cl:=λi hi=>by
   by_cases e:i=j
   .subst e
    rw[upd_same,upd_same,upd_same,upd_same];refine(hc.fr f2 (λz=>by have:=nl _ z;omega) (λz=>by have:=nl _ z;omega) (λx y z=>by have:=nl _ z;have:=h3 x y;omega)).fr f3 (by omega) (by omega) (λx y z=>by have:=h3 x y;omega)
   .rw[ab _ _ e,ab _ _ e,ab _ _ e,ab _ _ e]
    have hi:i<j:=by omega
    have a:=h.kc i hi;have b:=h.km i hi;have c:=λx y=>(h.ko i hi x y).1
    refine(((h.cl i hi).fr f id id (λ_ _=>id)).fr f2 (λz=>by have:=nl _ z;omega) (λz=>by have:=nl _ z;omega) (λx y z=>by have:=nl _ z;have:=c x y;omega)).fr f3 (λz=>by rw[z]at a;omega) (λz=>by rw[z]at b;omega) (λx y z=>by have:=c x y;rw[z]at this;omega)
  k1:=(old fb lf (by omega)).trans kf
  kc:=λi hi=>by
   by_cases e:i=j
   .subst e
    simp only[upd_same];rw[if_neg (λz=>by rcases nl' _ z with y|y<;>omega),if_pos trivial]
   .simp only[ab _ _ e]
    have a:=h.kc i (by omega);rw[old _ (h.lo _ (by omega)).2 (by omega)];exact a
  km:=λi hi=>by
   by_cases e:i=j
   .subst e
    simp only[upd_same];rw[if_neg (λz=>by rcases nl' _ z with y|y<;>omega),if_neg (by omega),if_pos trivial]
   .simp only[ab _ _ e]
    have a:=h.km i (by omega);rw[old _ (h.lo _ (by omega)).2 (by omega)];exact a
  ko:=λi hi x=>by
   by_cases e:i=j
   .subst e
    simp only[upd_same];intro z;have y:=h3 x z;have k0:kd x=0:=Classical.byContradiction λq=>by have:=(h.lo x q).2;omega
    rw[if_neg (λz=>by rcases nl' _ z with y|y<;>omega),if_neg (by omega),if_neg (by omega)];have:=h.fr.size;exact⟨k0,by omega⟩
   .simp only[ab _ _ e]
    intro z;have k0:=(h.ko i (by omega) x z).1;rw[old x ((h.cl i (by omega)).2.1.lt x z) (by omega)];exact⟨k0,(h.ko i (by omega) x z).2⟩
  kl:=λx z=>if_pos z
  lo:=λx z=>by
   rw[sl];have hw:=h.fr.size;by_cases e:lv'.ownBlock=some x
   .have:=up e
    rcases nl' x e with y|y
    .have:=h.lo x (by omega);omega
    .omega
   .simp only[e,if_false]at z
    by_cases e2:x=cj
    .omega
    .by_cases e3:x=mj
     .omega
     .simp only[e2,e3,if_false]at z
      have:=h.lo x z;omega
  fr:=((h.fr.trans f (λ_ z=>.inl z)).trans f2 (λx z=>.inr (h.lo x (by rw[h.kl x z];omega)).1)).trans f3 (λx z=>.inr (by rw[z];exact(h.lo fb (by omega)).1))}
def FSt.new(n:Nat)(L:Nat->List OpF):FSt:=⟨n,λi=>⟨L i,0,λ_=>0,go1 0 (L i).length⟩,none,[]⟩
def pQ(A:FA)(S:FSt)(x:Nat):Prop:=(Value.slice A.ca S.n A.cc).ownBlock=some x\/∃i,i<S.n/\(Value.slice (A.oa i) (S.cl i).ops.length (A.oc i)).ownBlock=some x
theorem pd.done{w wr:World}{p:PP}{q:Bool}{M:AM}{m n:Nat}{F:Nat->Prop}{lv:Value}{L:Nat->List OpF}{fb:Nat}{cb mb:Nat->Nat}{oa:Nat->Option Addr}{oc kd:Nat->Nat}(h:pd w wr p.ptr L fb n lv cb mb oa oc kd)(hp:aq p q M m w F)(hr:M.room<=65535)
  (h1:1<=n)(h8:n<=8)(hL:∀i,i<n->(L i).length<=1000/\∀o∈L i,o.ok)(hF:∀x,F x->x<w.heap.size)(hg:0<w.heap.size)(hgF:¬F 0)(ht:m+100*(FSt.new n L).total<58000):
  ∃A G,A.fb=fb/\FrX p q A m M (FSt.new n L) wr G/\(∀x,G x->F x\/w.heap.size<=x)/\∀x,pQ A (FSt.new n L) x->w.heap.size<=x:=by
 obtain⟨a,c,rfl,-,-⟩:=SlC.shape (SlC.ofOwn h.ls (by
  intro u hu;obtain⟨i,_,rfl⟩:=List.mem_map.1 hu;rfl))
 have hs:=h.fr.size;have kF:∀x,F x->kd x=0:=λx z=>Classical.byContradiction λy=>by have:=h.lo x y;have:=hF x z;omega
 have kk:∀x,¬kd x=0->¬kd x=4->∀v,kd x=v->(open Classical in(if F x then 3 else if kd x=4 then 0 else kd x))=v:=λx z1 z2 v z=>by
  rw[if_neg (λy=>z1 (kF x y)),if_neg z2];exact z
 classical
 refine⟨⟨fb,cb,mb,a,c,oa,oc,w.heap.size⟩,λx=>¬(if F x then 3 else if kd x=4 then 0 else kd x)=0,rfl,⟨⟨F,.slice none 0 0,λx=>if F x then 3 else if kd x=4 then 0 else kd x,?_,hr,?_,λx z=>if_pos z,λx=>Iff.rfl,by omega,?_⟩,?_,ht⟩,λx z=>?_,λx z=>?_⟩
 .exact hp.fr0 h.fr
 .exact{
   n1:=h1,n8:=h8,hd:=h.fd
   cs:=SlC.ofOwn h.ls (by
    intro u hu;obtain⟨i,_,rfl⟩:=List.mem_map.1 hu;rfl)
   lal:=λx z=>(by cases z),cl:=λi hi=>(h.cl i hi).1,op:=λi hi=>(h.cl i hi).2.1,pn:=λi hi=>⟨0,Nat.zero_le _,(h.cl i hi).2.2⟩
   ok:=λi hi=>⟨(hL i hi).1,(hL i hi).2,Nat.zero_le _,λz=>by
    show 0<(L i).length
    have z:go1 0 (L i).length=1\/go1 0 (L i).length=2:=z;unfold go1 at z
    split at z<;>omega,λx=>Nat.zero_le _,by
    show go1 0 (L i).length<=3
    unfold go1
    split<;>omega⟩
   lg:=⟨by first|rfl|simp[logC],.inl ⟨rfl,rfl⟩⟩
   ll:=Nat.zero_le _,bs:=hs
   k1:=kk fb (by rw[h.k1];omega) (by rw[h.k1];omega) _ h.k1
   kc:=λi hi=>kk _ (by rw[h.kc i hi];omega) (by rw[h.kc i hi];omega) _ (h.kc i hi)
   km:=λi hi=>kk _ (by rw[h.km i hi];omega) (by rw[h.km i hi];omega) _ (h.km i hi)
   kl:=λj z=>(by cases z)
   kv:=λj z=>by
    have e:=h.kl j z
    show(if F j then 3 else if kd j=4 then 0 else kd j)=0
    rw[if_neg (λy=>by have:=kF j y;omega),if_pos e]
   ko:=λi hi j z=>by
    obtain⟨e,e2⟩:=h.ko i hi j z;have hj:¬F j:=λy=>by have:=hF j y;omega
    show(if F j then 3 else if kd j=4 then 0 else kd j)=0
    rw[if_neg hj,if_neg (by omega)];exact e
   lt:=λj z=>by
    by_cases y:F j
    .have:=hF j y;omega
    .by_cases y2:kd j=4
     .exact(h.lo j (by omega)).2
     .have z:¬(if F j then 3 else if kd j=4 then 0 else kd j)=0:=z
      rw[if_neg y,if_neg y2]at z;exact(h.lo j z).2}
 .show(if F _ then 3 else if kd _=4 then 0 else kd _)=0
  have e:kd 0=0:=Classical.byContradiction λy=>by have:=(h.lo _ y).1;omega
  rw[if_neg hgF,if_neg (by omega)];exact e
 .have e:∀k,cQ (λi=>((FSt.new n L).cl i).done) k=0:=λk=>by
   induction k with
   |zero=>rfl
   |succ k ih=>show cQ _ k+0=0;rw[ih]
  exact(e _).symm
 .by_cases y:F x
  .exact .inl y
  .have z:¬(if F x then 3 else if kd x=4 then 0 else kd x)=0:=z
   rw[if_neg y]at z;by_cases y2:kd x=4
   .exact .inr (h.lo x (by omega)).1
   .rw[if_neg y2]at z
    exact .inr (h.lo x z).1
 .rcases z with z|⟨i,hi,z⟩
  .exact aL h.ls x z
  .exact(h.ko i hi x z).2
section
variable{w:World}{ov pv:Value}{ivs:List Value}{n:Nat}{L:Nat->List OpF}
theorem yy(pa:Addr)(h:SlC w 1 ov n ivs)(h1:1<=n)(h8:n<=8)(hi:∀i,i<n->∃v,ivs[i]?=some v/\SlC w 3 v (L i).length (opsC (L i)))(hL:∀i,i<n->(L i).length<=1000):
  Calls prog 54 #[.pointer (some pa),ov] w λe w'=>e=.returned (.tuple #[.pointer (some ⟨w.heap.size,0,none⟩),.int .i64 0])/\∃lv cb mb oa oc kd,pd w w' (.pointer (some pa)) L w.heap.size n lv cb mb oa oc kd:=by
 obtain⟨a,c,rfl,-,-⟩:=h.shape;have n1I:¬(n:Int)<1:=by omega
 have n8I:¬(8:Int)<(n:Int):=by omega
 have H:=Hd (And.intro h (And.intro hi hL))
 have H0:Hid (∀W,W=w.alloc (.cells #[.pointer (some pa),.slice none 0 0,.pointer none,.slice none 0 0] 139)->pd w W (.pointer (some pa)) L w.heap.size 0 (.slice none 0 0) (λ_=>0) (λ_=>0) (λ_=>none) (λ_=>0) (λx=>if x=w.heap.size then 1 else 0)):=Hd (by
  rintro W rfl
  exact{
   fd:=Blk.new _ _ _ 4 _ _ rfl rfl (λj hj=>by
    match j,hj with
    |0,_|1,_|2,_|3,_=>rfl)
   ls:=⟨by first|rfl|simp[ptrsC],.inl ⟨rfl,rfl⟩⟩
   cl:=λi z=>absurd z (Nat.not_lt_zero i),k1:=if_pos rfl,kc:=λi z=>absurd z (Nat.not_lt_zero i),km:=λi z=>absurd z (Nat.not_lt_zero i),ko:=λi z=>absurd z (Nat.not_lt_zero i),kl:=λx z=>(by cases z)
   lo:=λx z=>by
    have e:x=w.heap.size:=Classical.byContradiction λy=>z (if_neg y)
    have:=heap_alloc_new;subst e;exact⟨Nat.le_refl _,by simp⟩
   fr:=(Fr.refl NoF w).alloc _})
 clear h hi hL;go_enter func54,ntmps54
 go_wp2_with fail
 go_loopw [26] (λs26 wr=>∃j:Nat,j<=n/\s26=.int .i64 j/\∃lv cb mb oa oc kd,pd w wr (.pointer (some pa)) L w.heap.size j lv cb mb oa oc kd) (λs26 _=>n-(intOf s26).toNat)
 case atStart=>exact⟨0,Nat.zero_le _,rfl,_,_,_,_,_,_,H0.out _ rfl⟩
 case round=>
  obtain⟨j,hj,rfl,lv,cb,mb,oa,oc,kd,h3⟩:=hrel;by_cases hl:j<n
  .have hlI:(j:Int)<(n:Int):=by omega
   obtain⟨b1,o1,c1,e1,-,-,hb1,g1⟩:=H.out.1.at hl (by omega);simp only[Value.slice.injEq]at e1;obtain⟨rfl,-,rfl⟩:=e1;obtain⟨v,gv,sv⟩:=H.out.2.1 j hl;have gx:=g1 j v gv;have hfr:=h3.fr;rw[<-hfr.cell (p:=⟨b1,o1+j,none⟩) hb1 id]at gx;have sv:=sv.keep hfr;have c1:=h3.fd.cell (i:=1) (by omega);have z1:=h3.fd.frozen 1;have lf:=h3.fd.lt;simp only[frC]at c1;have HN:=Hd h3;have SV:=Hd sv;clear g1 h3 hfr sv gv;generalize w.heap.size=fb at*
   go_wp2_with fail
   refine fC (λw'=>w'.cell? ⟨fb,1,none⟩=some lv) 12 (by kernel_rfl) rfl rfl (by kernel_rfl) ?_;simp only[List.take_succ_cons,List.take_zero];have fd0:Fr NoF wr wr.drew:=(Fr.refl NoF wr).drew;have HF:=Hd (HN.out.fd.fr fd0 id);have HP:=Hd (kh j (SV.out.keep fd0) (H.out.2.2 j hl));have HS0:Hid (Fr NoF wr wr.drew):=Hd fd0;clear fd0
   have hS:(λw'=>w'.cell? ⟨fb,1,none⟩=some lv) wr.drew:=by
    have z:=HF.out.cell (i:=1) (by omega);exact z
   refine wpAnyH_take (i:=0) (v:=?_) rfl (by decide+kernel) (by decide+kernel) (by decide+kernel) (λ_ _ _ h=>h) (Or.inl ⟨by rfl,?_⟩) hS ?_
   rotate_left
   .intro wS hSw;(try dsimp only at hSw);go_simp
    try with_reducible rfl
   try simp only[Act.put,List.setIfInBounds_toArray,List.set_cons_zero,List.set_cons_succ]
   refine wpAnyH_take (i:=1) (v:=?_) rfl (by decide+kernel) (by decide+kernel) (by decide+kernel) (λ_ _ _ h=>h) (Or.inl ⟨by rfl,?_⟩) hS ?_
   rotate_left
   .intro wS hSw;(try dsimp only at hSw);go_simp
    try with_reducible rfl
   try simp only[Act.put,List.setIfInBounds_toArray,List.set_cons_zero,List.set_cons_succ]
   refine wpAnyH_take (i:=2) (v:=?_) rfl (by decide+kernel) (by decide+kernel) (by decide+kernel) (λ_ _ _ h=>h) (Or.inl ⟨by rfl,?_⟩) hS ?_
   rotate_left
   .intro wS hSw;(try dsimp only at hSw);go_simp
    try with_reducible rfl
   try simp only[Act.put,List.setIfInBounds_toArray,List.set_cons_zero,List.set_cons_succ]
   refine wpAnyH_take (i:=3) (v:=?_) rfl (by decide+kernel) (by decide+kernel) (by decide+kernel) (λ_ _ _ h=>h) (Or.inl ⟨by rfl,?_⟩) hS ?_
   rotate_left
   .intro wS hSw;(try dsimp only at hSw);go_simp
    try with_reducible rfl
   try simp only[Act.put,List.setIfInBounds_toArray,List.set_cons_zero,List.set_cons_succ]
   refine wpAnyH_take (i:=4) (v:=?_) rfl (by decide+kernel) (by decide+kernel) (by decide+kernel) (λ_ _ _ h=>h) (Or.inl ⟨by rfl,?_⟩) hS ?_
   rotate_left
   .intro wS hSw;(try dsimp only at hSw);go_simp
    try with_reducible rfl
   try simp only[Act.put,List.setIfInBounds_toArray,List.set_cons_zero,List.set_cons_succ]
   refine wpAnyH_take (i:=5) (v:=?_) rfl (by decide+kernel) (by decide+kernel) (by decide+kernel) (λ_ _ _ h=>h) (Or.inl ⟨by rfl,?_⟩) hS ?_
   rotate_left
   .intro wS hSw;(try dsimp only at hSw);go_simp
    try with_reducible rfl
   try simp only[Act.put,List.setIfInBounds_toArray,List.set_cons_zero,List.set_cons_succ]
   refine wpAnyH_take (i:=6) (v:=?_) rfl (by decide+kernel) (by decide+kernel) (by decide+kernel) (λ_ _ _ h=>h) (Or.inl ⟨by rfl,?_⟩) hS ?_
   rotate_left
   .intro wS hSw;(try dsimp only at hSw);go_simp
    try with_reducible rfl
   try simp only[Act.put,List.setIfInBounds_toArray,List.set_cons_zero,List.set_cons_succ]
   clear hS;generalize wr.drew=wd at*;refine wpAnyH_ready (rs:=[7]) (by kernel_rfl) (by simp) ?_;refine AllReadyH.cons rfl (λK hK=>?_) ?_
   .go_simp
    refine HP.out.mono ?_;rintro e w1⟨cj,mj,aj,cc,rfl,k1,k2,k3,k4,k5⟩;have KC:=Hd (And.intro k1 (And.intro k2 (And.intro k3 (And.intro k4 k5))));have HF1:=Hd (HF.out.fr k5 id);have HL1:=Hd (am HN.out.ls (HS0.out.trans k5 (λ_ z=>.inl z)) (λ_ _ z=>z));have HB1:Hid (w.heap.size<=w1.heap.size):=Hd (Nat.le_trans HN.out.fr.size (Nat.le_trans (Fr.size HS0.out) k5.size));have NFB:Hid (¬lv.ownBlock=some fb):=Hd (λz=>by have e1:=HN.out.kl fb z;have e2:=HN.out.k1;omega);clear k1 k2 k3 k4 k5;refine hK.out _ _ (by exact HF1.out.cell (i:=1) (by omega)) (λhS=>?_);clear hK K
    try simp only[Act.put,List.setIfInBounds_toArray,List.set_cons_zero,List.set_cons_succ]
    refine wpAnyH_ready (rs:=[8]) (by kernel_rfl) (by simp) ?_;refine AllReadyH.cons rfl (λK hK=>?_) ?_
    .go_simp
     refine hK.out _ _ (by exact(HF1.out.fr ((Fr.refl NoF w1).alloc _) id).cell (i:=1) (by omega)) (λhS=>?_);clear hK K
     try simp only[Act.put,List.setIfInBounds_toArray,List.set_cons_zero,List.set_cons_succ]
     refine wpAnyH_ready (rs:=[9]) (by kernel_rfl) (by simp) ?_;refine AllReadyH.cons rfl (λK hK=>?_) ?_
     .have fa:Fr NoF w1 (w1.alloc (.cells #[.pointer (some ⟨cj,0,none⟩)] 137)):=(Fr.refl NoF w1).alloc _
      refine nG (base:=w.heap.size) EIc rfl (.tmp 35) (.tmp 39) rfl (by rfl) (by rfl) (Nat.le_trans HB1.out fa.size) (am HL1.out fa (λ_ _ q=>q)) (SlC.ofOwn (bo (w0:=w1) (Nat.le_refl _) #[_] 137 1 1 _ rfl rfl (by unfold maxLen;omega)) (by intro u hu;simp at hu;subst hu;rfl)) (by unfold maxLen;omega) (by omega) ?_;intro lv2 w2 hown2 hf2 hob2;have HB2:=Hd ((HF1.out.fr fa id).fr hf2 NFB.out);refine hK.out _ _ (by exact HB2.out.cell (i:=1) (by omega)) (λhS=>?_);clear hK K
      try simp only[Act.put,List.setIfInBounds_toArray,List.set_cons_zero,List.set_cons_succ]
      refine wpAnyH_take (i:=10) (v:=?_) rfl (by decide+kernel) (by decide+kernel) (by decide+kernel) (λ_ _ _ h=>h) (Or.inl ⟨by rfl,?_⟩) hS ?_
      rotate_left
      .intro wS hSw;(try dsimp only at hSw);go_simp
       try with_reducible rfl
      try simp only[Act.put,List.setIfInBounds_toArray,List.set_cons_zero,List.set_cons_succ]
      refine wpAnyH_take (i:=11) (v:=?_) rfl (by decide+kernel) (by decide+kernel) (by decide+kernel) (λ_ _ _ h=>h) (Or.inl ⟨by rfl,?_⟩) hS ?_
      rotate_left
      .intro wS hSw;(try dsimp only at hSw);go_simp
       try with_reducible rfl
      try simp only[Act.put,List.setIfInBounds_toArray,List.set_cons_zero,List.set_cons_succ]
      refine wpAnyH_done (by kernel_rfl) ?_ _
      show wpList _ _ _ _ _ _
      have h1c:∀u∈ptrsC j cb++#[Value.pointer (some ⟨cj,0,none⟩)].toList,u.oneCell'=true:=λu hu=>by
       rcases List.mem_append.1 hu with z|z
       .obtain⟨i,_,rfl⟩:=List.mem_map.1 z;rfl
       .simp at z;subst z;rfl
      obtain⟨a2,c2,rfl,-,-⟩:=(SlC.ofOwn hown2 h1c).shape;clear h1c;have k2:=HB2.out.frozen 1;have k3:=HB2.out.lt;have hl2:=hown2;have STEP:=Hd (pd.step HN.out KC.out.1 (Nat.le_trans (Fr.size HS0.out) KC.out.2.1) KC.out.2.2.1 (λx z=>⟨Nat.le_trans (Fr.size HS0.out) (KC.out.2.2.2.1 x z).1,(KC.out.2.2.2.1 x z).2⟩) (HS0.out.trans KC.out.2.2.2.2 (λ_ z=>.inl z)) hown2 (fa.none.trans hf2 (λ_ z=>.inl z)) (λb z=>(hob2 b z).imp id (λz=>Nat.le_trans fa.size z)));have c1:=hS;clear hown2 hf2 hob2 hl2 HP HL1 HF1 HF HS0 HN SV H0 KC HB2 fa hS z1
      go_wp2_with fail
      go_roundw
      case rel=>exact⟨j+1,by omega,by go_num,_,STEP.out⟩
      case measure=>simp[intOf];omega
     exact AllReadyH.nil
    exact AllReadyH.nil
   exact AllReadyH.nil
  .obtain rfl:j=n:=by omega
   have HX:=Hd h3;clear h3 hl;go_wp2;go_returns;exact⟨rfl,_,_,_,_,_,_,HX.out⟩
theorem GY{p:PP}{q:Bool}{M:AM}{m:Nat}{F:Nat->Prop}(hp:aq p q M m w F)(hr:M.room<=65535)(h:SlC w 1 ov n ivs)(h1:1<=n)(h8:n<=8)(hi:∀i,i<n->∃v,ivs[i]?=some v/\SlC w 3 v (L i).length (opsC (L i)))(hL:∀i,i<n->(L i).length<=1000/\∀o∈L i,o.ok)
  (hF:∀x,F x->x<w.heap.size)(hg:0<w.heap.size)(hgF:¬F 0)(ht:m+100*(FSt.new n L).total<58000):
  Calls prog 54 #[p.ptr,ov] w λe w'=>∃A G,e=.returned (.tuple #[.pointer (some ⟨A.fb,0,none⟩),.int .i64 0])/\FrX p q A m M (FSt.new n L) w' G/\Fr NoF w w'/\(∀x,G x->F x\/w.heap.size<=x)/\∀x,pQ A (FSt.new n L) x->w.heap.size<=x:=by
 have e:∃pa,p.ptr=.pointer (some pa):=by unfold PP.ptr;exact⟨_,rfl⟩
 obtain⟨pa,e⟩:=e;rw[e];refine(yy pa h h1 h8 hi (λi z=>(hL i z).1)).mono λe' w' ⟨k1,lv,cb,mb,oa,oc,kd,k2⟩=>?_
 rw[<-e]at k2;obtain⟨A,G,ea,k3,k4⟩:=k2.done hp hr h1 h8 hL hF hg hgF ht;exact⟨A,G,by rw[k1,ea],k3,k2.fr,k4⟩
theorem Hz{p:PP}{q:Bool}{M:AM}{m:Nat}{F:Nat->Prop}(hp:aq p q M m w F)(hr:M.room<=65535)(h:SlC w 1 ov n ivs)(h1:1<=n)(h8:n<=8)(hi:∀i,i<n->∃v,ivs[i]?=some v/\SlC w 3 v (L i).length (opsC (L i)))(hL:∀i,i<n->(L i).length<=1000/\∀o∈L i,o.ok)
  (hF:∀x,F x->x<w.heap.size)(hg:0<w.heap.size)(hgF:¬F 0)(ht:m+100*(FSt.new n L).total<58000):
  Calls prog 54 #[p.ptr,ov] w λe w'=>∃A G,e=.returned (.tuple #[.pointer (some ⟨A.fb,0,none⟩),.int .i64 0])/\FrX p q A m M (FSt.new n L) w' G/\Fr NoF w w'/\∀x,G x->F x\/w.heap.size<=x:=
 (GY hp hr h h1 h8 hi hL hF hg hgF ht).mono λe w' ⟨A,G,k1,k2,k3,k4,_⟩=>⟨A,G,k1,k2,k3,k4⟩
end
theorem SlC.take{w:World}{size m c k:Nat}{a:Option Addr}{news:List Value}(h:SlC w size (.slice a m c) m news)(hk:k<=m):SlC w size (.slice a k c) k (news.take (k*size)):=by
 obtain⟨a',c',e,h1,h2,h3,h4,h5⟩:=h;simp only[Value.slice.injEq]at e;obtain⟨rfl,_,rfl⟩:=e;refine⟨a,c,rfl,by rw[List.length_take,h1];exact Nat.min_eq_left (Nat.mul_le_mul_right _ hk),λu hu=>h2 u (List.mem_of_mem_take hu),by omega,h4,h5.imp id ?_⟩;rintro⟨b,off,e,hb,hc⟩;refine⟨b,off,e,hb,λj u hj=>hc j u ?_⟩;rw[List.getElem?_take]at hj
 split at hj
 .exact hj
 .cases hj
theorem SlZ.cut{w:World}{a:Option Addr}{c:Nat}{l:List Int}(h:SlZ w (.slice a l.length c) l)(k:Nat)(hk:k<=l.length):SlZ w (.slice a k c) (l.take k):=by
 have h2:=SlC.take h hk;rw[Nat.mul_one,<-List.map_take]at h2;unfold SlZ
 rwa [List.length_take,Nat.min_eq_left hk]
section
variable{p:PP}{q:Bool}{M:AM}{m:Nat}{w w0 w':World}
def Duo(R1 R2:World->(Nat->Prop)->Prop)(w0 w:World):Prop:=0<w0.heap.size/\∃F G,R1 w F/\R2 w G/\(∀i,F i->¬G i)/\(∀i,F i\/G i->w0.heap.size<=i)/\Fr NoF w0 w
structure Frm(R:World->(Nat->Prop)->Prop):Prop where
 lt:∀{w:World} {F:Nat->Prop},R w F->∀i,F i->i<w.heap.size
 fro:∀{w w':World} {F G:Nat->Prop},R w F->Fr G w w'->(∀i,F i->¬G i)->¬G 0->R w' F
theorem Duo.leftB{g:FuncId}{args:Array Value}{Q:Ending->Prop}{R1 R1' R2:World->(Nat->Prop)->Prop}(k2:Frm R2)(h:Duo R1 R2 w0 w)(hc:∀F,R1 w F->(∀i,F i->w0.heap.size<=i)->Calls prog g args w λe w'=>Q e/\Led R1' F w w'):Calls prog g args w λe w'=>Q e/\Duo R1' R2 w0 w':=by
 obtain⟨h0,F,G,h1,h2,h3,h4,h5⟩:=h;refine(hc F h1 (λi c=>h4 i (.inl c))).mono ?_;rintro e w'⟨k0,F',k1,k2',k3⟩;refine⟨k0,h0,F',G,k1,k2.fro h2 k2' (λi g f=>h3 i f g) (λc=>by have:=h4 _ (.inl c);omega),λi a b=>?_,λi c=>?_,h5.trans k2' (λi c=>.inr (h4 i (.inl c)))⟩
 .rcases k3 i a with c|c
  .exact h3 i c b
  .have:=k2.lt h2 i b;omega
 .rcases c with c|c
  .rcases k3 i c with d|d
   .exact h4 i (.inl d)
   .have:=h5.size;omega
  .exact h4 i (.inr c)
theorem Duo.left{g:FuncId}{args:Array Value}{Q:Ending->Prop}{R1 R1' R2:World->(Nat->Prop)->Prop}(k2:Frm R2)(h:Duo R1 R2 w0 w)(hc:∀F,R1 w F->Calls prog g args w λe w'=>Q e/\Led R1' F w w'):Calls prog g args w λe w'=>Q e/\Duo R1' R2 w0 w':=h.leftB k2 (λF k _=>hc F k)
theorem Duo.swap{R1 R2:World->(Nat->Prop)->Prop}(h:Duo R1 R2 w0 w):Duo R2 R1 w0 w:=by
 obtain⟨h0,F,G,h1,h2,h3,h4,h5⟩:=h;exact⟨h0,G,F,h2,h1,λi a b=>h3 i b a,λi c=>h4 i c.symm,h5⟩
theorem Duo.rightB{g:FuncId}{args:Array Value}{Q:Ending->Prop}{R1 R2 R2':World->(Nat->Prop)->Prop}(k1:Frm R1)(h:Duo R1 R2 w0 w)(hc:∀F,R2 w F->(∀i,F i->w0.heap.size<=i)->Calls prog g args w λe w'=>Q e/\Led R2' F w w'):Calls prog g args w λe w'=>Q e/\Duo R1 R2' w0 w':=
 (Duo.leftB k1 h.swap hc).mono λe w' ⟨k0,k1⟩=>⟨k0,k1.swap⟩
theorem Duo.right{g:FuncId}{args:Array Value}{Q:Ending->Prop}{R1 R2 R2':World->(Nat->Prop)->Prop}(k1:Frm R1)(h:Duo R1 R2 w0 w)(hc:∀F,R2 w F->Calls prog g args w λe w'=>Q e/\Led R2' F w w'):Calls prog g args w λe w'=>Q e/\Duo R1 R2' w0 w':=
 h.rightB k1 (λF k _=>hc F k)
theorem Duo.frm{R1 R2:World->(Nat->Prop)->Prop}(k1:Frm R1)(k2:Frm R2)(h:Duo R1 R2 w0 w)(f:Fr NoF w w'):Duo R1 R2 w0 w':=by
 obtain⟨h0,F,G,h1,h2,h3,h4,h5⟩:=h;exact⟨h0,F,G,k1.fro h1 f (λ_ _ q=>q) (λq=>q),k2.fro h2 f (λ_ _ q=>q) (λq=>q),h3,h4,h5.trans f (λ_ c=>c.elim)⟩
theorem Duo.fin{R1 R2:World->(Nat->Prop)->Prop}(h:Duo R1 R2 w0 w):Fr NoF w0 w:=by
 obtain⟨h0,F,G,h1,h2,h3,h4,h5⟩:=h;exact h5
end
end
end Go.Proofs.YtkjhnllcphidpaaGreatDoor
