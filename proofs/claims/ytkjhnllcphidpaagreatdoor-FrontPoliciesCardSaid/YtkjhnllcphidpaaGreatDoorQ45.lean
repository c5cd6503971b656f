/- Part 45. -/
import Derived.Test.YtkjhnllcphidpaaGreatDoorQ44
import Derived.Deep.Lists
namespace Go.Proofs.YtkjhnllcphidpaaGreatDoor
set_option linter.all false
set_option maxHeartbeats 16000000
set_option maxRecDepth 100000
section
open Go.Maps Go.Proofs.Tryz Go.RowKit
theorem FSt.run_same(nf:Nat):∀(ks:List Int) (M:AM) (S:FSt),(FSt.run nf M S ks).2.n=S.n/\∀i,((FSt.run nf M S ks).2.cl i).ops=(S.cl i).ops
 |[],M,S=>⟨rfl,λ_=>rfl⟩
 |k::l,M,S=>by
  obtain⟨a,b⟩:=FSt.run_same nf l (S.pick nf M (whoF k S.n)).2.1 (S.pick nf M (whoF k S.n)).2.2;exact⟨a.trans (FSt.pick_n ..),λi=>(b i).trans (FSt.pick_ops ..)⟩
theorem FSt.sweep_ops(nf:Nat)(M:AM)(S:FSt)(i:Nat):∀j,((S.sweep nf M j).2.2.cl i).ops=(S.cl i).ops
 |0=>rfl
 |j+1=>by
  show(((FSt.sweep nf M S j).2.2.pick nf (FSt.sweep nf M S j).2.1 j).2.2.cl i).ops=(S.cl i).ops
  rw[FSt.pick_ops];exact FSt.sweep_ops nf M S i j
theorem FSt.restG_same(nf:Nat):∀(g:Nat) (M:AM) (S:FSt),(FSt.restG nf g M S).2.n=S.n/\∀i,((FSt.restG nf g M S).2.cl i).ops=(S.cl i).ops
 |0,M,S=>⟨rfl,λ_=>rfl⟩
 |g+1,M,S=>by
  unfold FSt.restG
  split
  .obtain⟨a,b⟩:=FSt.restG_same nf g (S.round nf M).2.1 (S.round nf M).2.2
   exact⟨a.trans (FSt.sweep_n ..),λi=>(b i).trans (FSt.sweep_ops ..)⟩
  .exact⟨FSt.sweep_n ..,λi=>FSt.sweep_ops ..⟩
theorem xH{A:FA}{S S':FSt}(h:S'.n=S.n/\∀i,(S'.cl i).ops=(S.cl i).ops)(x:Nat):pQ A S' x↔pQ A S x:=by
 unfold pQ;rw[h.1];simp only[h.2]
section
variable{p:PP}{q:Bool}{A:FA}{m0:Nat}{M M':AM}{S S':FSt}{w w':World}{G H X:Nat->Prop}
theorem FrX.fro(h:FrX p q A m0 M S w G)(f:Fr X w w')(hG:∀i,G i->¬X i)(ho:∀i,pQ A S i->¬X i)(ht:¬X 0):FrX p q A m0 M S w' G:=by
 obtain⟨⟨F,lv,kd,h1,hr,h3,h4,h5,h6,h7⟩,hd,hm⟩:=h;have hk:∀j,¬kd j=0->¬X j:=λj z=>hG j ((h5 j).2 z)
 have hs:=f.size;refine⟨⟨F,lv,kd,h1.fro f (λi z=>hk i (by rw[h4 i z];omega)) ht,hr,?_,h4,h5,by omega,h7⟩,hd,hm⟩
 exact{h3 with
  hd:=h3.hd.fr f (hk _ (by rw[h3.k1];omega))
  cs:=h3.cs.fr f (λb z=>ho b (.inl z))
  cl:=λi hi=>(h3.cl i hi).fr f (hk _ (by rw[h3.kc i hi];omega))
  op:=λi hi=>(h3.op i hi).fr f (λb z=>ho b (.inr ⟨i,hi,z⟩))
  pn:=λi hi=>by obtain⟨c,k1,k2⟩:=h3.pn i hi;exact⟨c,k1,MpV.fr k2 f (hk _ (by rw[h3.km i hi];omega))⟩
  lg:=am h3.lg f (λb z=>hk b (by rw[h3.kl b z];omega))
  bs:=Nat.le_trans h3.bs hs
  lt:=λj z=>Nat.lt_of_lt_of_le (h3.lt j z) hs}
theorem FrX.own_lt(h:FrX p q A m0 M S w G):∀i,pQ A S i->i<w.heap.size:=by
 obtain⟨⟨F,lv,kd,h1,hr,h3,_⟩,_⟩:=h;rintro i(z|⟨k,hk,z⟩)
 .exact h3.cs.lt i z
 .exact(h3.op k hk).lt i z
def FrY(p:PP)(q:Bool)(A:FA)(m0:Nat)(M:AM)(S:FSt)(w:World)(H:Nat->Prop):Prop:=∃G,FrX p q A m0 M S w G/\∀i,H i↔G i\/pQ A S i
theorem gq:Frm (FrY p q A m0 M S) where
 lt:=λ⟨G,h1,h2⟩ i z=>((h2 i).1 z).elim (h1.lt i) (h1.own_lt i)
 fro:=λ⟨G,h1,h2⟩ f hG ht=>⟨G,h1.fro f (λi z=>hG i ((h2 i).2 (.inl z))) (λi z=>hG i ((h2 i).2 (.inr z))) ht,h2⟩
theorem FrY.lift{Q:Ending->Prop}{g:FuncId}{args:Array Value}(same:S'.n=S.n/\∀i,(S'.cl i).ops=(S.cl i).ops)(h:FrY p q A m0 M S w H)
  (hc:∀G,FrX p q A m0 M S w G->(∀i,G i->H i)->Calls prog g args w λe w'=>Q e/\Led (FrX p q A m0 M' S') G w w'):Calls prog g args w λe w'=>Q e/\Led (FrY p q A m0 M' S') H w w':=by
 obtain⟨G,h1,h2⟩:=h;refine(hc G h1 (λi z=>(h2 i).2 (.inl z))).mono ?_;rintro e w'⟨k0,G',k1,k2,k3⟩;refine⟨k0,λi=>G' i\/pQ A S' i,⟨G',k1,λi=>Iff.rfl⟩,k2.mono (λi z=>(h2 i).2 (.inl z)),λi z=>?_⟩;rcases z with z|z
 .exact(k3 i z).imp (λy=>(h2 i).2 (.inl y)) id
 .exact .inl ((h2 i).2 (.inr ((xH same i).1 z)))
theorem Hb(h:FrY p q A m0 M S w H)(hn:p.n<=64){v:Value}{ks:List Int}(hv:SlZ w v ks)(hk:ks.length<=100000)(hG:∀j,v.ownBlock=some j->¬H j):
  Calls prog 29 #[.pointer (some ⟨A.fb,0,none⟩),v] w λe w'=>e=.returned (.tuple #[])/\Led (FrY p q A m0 (FSt.run p.n M S ks).1 (FSt.run p.n M S ks).2) H w w':=
 h.lift (FSt.run_same ..) (λG k z=>Iu k hn hv hk (λj y c=>hG j y (z j c)))
theorem Ed(h:FrY p q A m0 M S w H)(hn:p.n<=64):
  Calls prog 25 #[.pointer (some ⟨A.fb,0,none⟩)] w λe w'=>e=.returned (.tuple #[])/\Led (FrY p q A m0 (S.rest p.n M).1 (S.rest p.n M).2) H w w':=
 h.lift (FSt.restG_same ..) (λG k z=>DV k hn)
end
end
section
open Go.Maps Go.RowKit
section
variable{w:World}{b:Nat}{Q:World->Prop}{G:Nat->Prop}
theorem rY(w:World)(y1 y2 y3 u1 u2 u3:Value){t t':TypeId}:Blk ((w.alloc (.cells #[y1,y2,y3] t')).alloc (.cells #[u1,u2,u3] t)) (w.heap.size+1) 3 (λi=>if i=0 then u1 else if i=1 then u2 else u3):=
 Blk.new _ _ _ _ _ _ (by simp) rfl (λi hi=>by
  match i,hi with
  |0,_=>rfl
  |1,_=>rfl
  |2,_=>rfl)
end
end
section
open Go.Maps Go.Proofs.Tryz Go.RowKit
theorem zv(k id x:Int)(w:World):Calls prog 13 #[.agg #[.int .i64 k,.int .u32 id,.int .u64 x]] w λe w'=>e=.returned (.agg #[.int .i64 k,.int .u32 id,.int .u64 x])/\Fr NoF w w':=by
 go_enter func13,ntmps13;go_wp2
 (try simp only[Exit.inBlock,Exit.then])
 refine bodyPost_ret (au Tryz.results13 _ _ (rY w _ _ _ _ _ _) rfl underlying50 rfl (by kernel_rfl)) rfl ?_;exact⟨rfl,((Fr.refl NoF w).alloc _).alloc _⟩
def Iq(w:World)(v:Value)(n:Nat)(L:Nat->List OpF):Prop:=∃ivs,SlC w 1 v n ivs/\∀i,i<n->∃u,ivs[i]?=some u/\SlC w 3 u (L i).length (opsC (L i))
theorem wZ(l:List OpF)(k:Nat):(opsC l).take (k*3)=opsC (l.take k):=by
 induction l generalizing k with
 |nil=>simp[opsC]
 |cons x l ih=>
  cases k with
  |zero=>simp[opsC]
  |succ k=>
   show(opC x++opsC l).take ((k+1)*3)=opC x++opsC (l.take k)
   rw[<-ih k,show(k+1)*3=(opC x).length+k*3 by simp[opC];omega,List.take_length_add_append]
def InO(w:World)(u:Value)(l:List OpF):Prop:=SlC w 3 u l.length (opsC l)\/(l=[]/\∃a,u=.slice a 0 0)
theorem InO.shape{w:World}{u:Value}{l:List OpF}(h:InO w u l):∃a c,u=.slice a l.length c/\l.length<=c/\c<=maxLen:=by
 rcases h with h|⟨rfl,a,rfl⟩
 .exact h.shape
 .exact⟨a,0,rfl,Nat.le_refl _,by unfold maxLen;omega⟩
theorem InO.keep{w w':World}{u:Value}{l:List OpF}(h:InO w u l)(f:Fr NoF w w'):InO w' u l:=h.imp (λq=>q.keep f) id
theorem InO.sl{w:World}{u:Value}{l:List OpF}(h:InO w u l)(hl:0<l.length):SlC w 3 u l.length (opsC l):=by
 rcases h with h|⟨rfl,_⟩
 .exact h
 .simp at hl
def SlOI(w:World)(v:Value)(n:Nat)(L:Nat->List OpF):Prop:=∃ivs,SlC w 1 v n ivs/\∀i,i<n->∃u,ivs[i]?=some u/\InO w u (L i)
theorem SlOI.keep{w w':World}{v:Value}{n:Nat}{L:Nat->List OpF}(h:SlOI w v n L)(f:Fr NoF w w'):SlOI w' v n L:=by
 obtain⟨ivs,h1,h2⟩:=h;exact⟨ivs,h1.keep f,λi hi=>by obtain⟨u,k1,k2⟩:=h2 i hi;exact⟨u,k1,k2.keep f⟩⟩
theorem wV(l:List OpF)(o:OpF):opsC (l++[o])=opsC l++opC o:=by simp[opsC]
theorem Ik:EI prog 59 23 1 24:=EI.mk' (z:=.slice none 0 0) underlying59 (by kernel_rfl) rfl (by decide)
theorem Hn:EI prog 133 135 1 24:=EI.mk' (z:=.slice none 0 0) underlying133 (by kernel_rfl) rfl (by decide)
def jH(n:Nat):Nat:=if n=0 then 1 else min n 8
def fewL(n:Nat)(L:Nat->List OpF)(i:Nat):List OpF:=if n=0 then[⟨0,0,0⟩]else(L i).take 40
theorem rD{α:Type}{xs:List α}{x:α}{j:Nat}(hl:xs.length=j){P:Nat->α->Prop}(h:∀i,i<j->∃u,xs[i]?=some u/\P i u)(hx:P j x):∀i,i<j+1->∃u,(xs++[x])[i]?=some u/\P i u:=by
 intro i hi;by_cases e:i<j
 .obtain⟨u,k1,k2⟩:=h i e
  exact⟨u,by rw[List.getElem?_append_left (by omega)];exact k1,k2⟩
 .obtain rfl:i=j:=by omega
  exact⟨x,by rw[List.getElem?_append_right (by omega),hl];simp,hx⟩
theorem zw{α:Type}(l:List α)(k:Nat):l.take (min l.length k)=l.take k:=by
 rcases Nat.le_total l.length k with h|h
 .rw[Nat.min_eq_left h,List.take_of_length_le h,List.take_length]
 .rw[Nat.min_eq_right h]
theorem InO.take{w:World}{l:List OpF}{a:Option Addr}{c:Nat}(h:InO w (.slice a l.length c) l)(k:Nat):InO w (.slice a (min l.length k) c) (l.take k):=by
 rcases h with h|⟨rfl,b,e⟩
 .left
  have:=h.take (k:=min l.length k) (by omega);rw[wZ,zw]at this
  rwa [show(l.take k).length=min l.length k by rw[List.length_take,Nat.min_comm]]
 .right
  refine⟨by simp,b,?_⟩;simp only[Value.slice.injEq]at e⊢;exact⟨e.1,by simp,e.2.2⟩
section
variable{w:World}{v:Value}{n:Nat}{L:Nat->List OpF}
theorem ya(h:SlOI w v n L):Calls prog 16 #[v] w λe w'=>∃v',e=.returned v'/\SlOI w' v' (jH n) (fewL n L)/\Fr NoF w w':=by
 obtain⟨ivs,hs,hu⟩:=h;obtain⟨a,c,rfl,q1,q2⟩:=hs.shape;unfold maxLen at q2;have HS:=Hd hs;have HU:=Hd hu;clear hs hu;go_enter func16,ntmps16;go_wp2;have HK:Hid ((min (n:Int) 8).toNat=min n 8):=by show _=_;omega
 generalize(min (n:Int) 8).toNat=k at*;have hk1:k<=n:=by have:=HK.out;omega
 have hk8:k<=8:=by have:=HK.out;omega
 go_loopw [3,4] (λo i wr=>∃j:Nat,j<=k/\i=.int .i64 j/\∃xs,wr.ownsRow w.heap.size 23 1 o j xs/\(∀i,i<j->∃u,xs[i]?=some u/\InO w u ((L i).take 40))/\(∀u∈xs,u.oneCell'=true)/\Fr NoF w wr) (λ_ i _=>k-(intOf i).toNat)
 case atStart=>exact⟨0,Nat.zero_le _,rfl,[],⟨rfl,.inl ⟨rfl,rfl⟩⟩,λi hi=>by omega,λu q=>(by cases q),Fr.refl _ _⟩
 case round=>
  obtain⟨j,hj,rfl,xs,ho,hx,h1,hf⟩:=hrel;have HO:=Hd ho;have HF:=Hd hf;have HX:=Hd hx;have H1:=Hd h1;have hxl:Hid (xs.length=j):=by have:=ho.1;show _=_;omega
  obtain⟨oa,ocp,rfl,_,_⟩:=(SlC.ofOwn ho h1).shape;clear ho hx h1;by_cases hlt:j<k
  .have HSW:=Hd (HS.out.keep hf)
   obtain⟨b,off,c',ev',_,_,hb,cy⟩:=HSW.out.at (k:=j) (by omega) (by omega);simp only[Value.slice.injEq]at ev';obtain⟨rfl,_,rfl⟩:=ev';obtain⟨u,hu1,hu2⟩:=HU.out j (by omega);obtain⟨ua,uc,rfl,hu3,hu4⟩:=hu2.shape;unfold maxLen at hu4;have cz:=cy j _ hu1
   have HU2:Hid (InO w (.slice ua (min ((L j).length:Int) 40).toNat uc) ((L j).take 40)):=by
    have:=hu2.take 40;rw[show(min ((L j).length:Int) 40).toNat=min (L j).length 40 by omega];exact this
   have hm0:0<=min ((L j).length:Int) 40:=by omega
   have hm1:min ((L j).length:Int) 40<=(uc:Int):=by omega
   clear cy hu1 hu2 hf;go_wp2
   go_region_law(first
    |(refine nG (base:=w.heap.size) Ik rfl (.tmp 16) (.tmp 28) rfl (by rfl) (by rfl) (by have:=HF.out.size;simp;omega) (am HO.out (by repeat(first|exact Fr.refl NoF _|apply Fr.drew|apply Fr.alloc)) (λ_ _ q=>q)) (iY (size:=1) (n:=1) (cs:=#[.slice ua (min ((L j).length:Int) 40).toNat uc]) (by(try rw[heap_drew]);refine heap_alloc_new _ _ _ ?_;simp) (by rfl) (by unfold maxLen;omega) (by simp[Value.oneCell'])) (by unfold maxLen;omega) (by omega) ?_;intro v' w2 hown' hf' hob';have HF':Hid (Fr (λb=>(Value.slice oa j ocp).ownBlock=some b) wr w2):=Hd (Fr.trans (Fr.none (by repeat(first|exact Fr.refl NoF _|apply Fr.drew|apply Fr.alloc))) hf' (λi hi=>.inl hi));have HO':=Hd hown';clear hown' hf' hob'))
   all_goals
    go_wp2
    go_roundw
    case rel=>
     refine⟨j+1,by omega,by go_num,_,HO'.out,rD hxl.out HX.out HU2.out,λu q=>?_,HF.out.trans HF'.out (λi hi=>.inr (aL HO.out i hi))⟩;rcases List.mem_append.1 q with q|q
     .exact H1.out u q
     .simp at q;subst q;rfl
    case measure=>simp[intOf];omega
  .obtain rfl:j=k:=by omega
   by_cases hn:n=0
   .obtain rfl:j=0:=by omega
    subst hn;clear hf;go_wp2;go_returns;have f2:Fr NoF wr (wr.alloc (.cells #[.int .i64 0,.int .u32 0,.int .u64 0] 52)):=(Fr.refl NoF _).alloc _;have o1:=bo (w0:=w) (w:=wr) HF.out.size #[.int .i64 0,.int .u32 0,.int .u64 0] 52 3 1 _ rfl rfl (by unfold maxLen;omega);have o2:=bo (w0:=w) (HF.out.trans f2 (λ_ q=>.inl q)).size #[.slice (some ⟨wr.heap.size,0,none⟩) 1 1] 23 1 1 (wr.heap.size+1) (by simp) rfl (by unfold maxLen;omega);have f3:=f2.alloc (.cells #[.slice (some ⟨wr.heap.size,0,none⟩) 1 1] 23);refine⟨_,rfl,⟨_,SlC.ofOwn o2 (by simp[Value.oneCell']),λi hi=>?_⟩,HF.out.trans f3 (λ_ q=>.inl q)⟩;obtain rfl:i=0:=by unfold jH at hi;simp at hi;omega
    exact⟨_,rfl,.inl ((SlC.ofOwn o1 (by simp[Value.oneCell'])).keep ((Fr.refl NoF _).alloc _))⟩
   .have hj0:0<j:=by have:=HK.out;omega
    have e1:jH n=j:=by unfold jH;rw[if_neg hn];have:=HK.out;omega
    have e2:fewL n L=λi=>(L i).take 40:=by unfold fewL;funext i;rw[if_neg hn]
    clear hf;go_wp2;go_returns;rw[e1,e2];exact⟨_,rfl,⟨xs,SlC.ofOwn HO.out H1.out,λi hi=>by obtain⟨u,k1,k2⟩:=HX.out i hi;exact⟨u,k1,k2.keep HF.out⟩⟩,HF.out⟩
theorem rg(h:SlOI w v n L)(hn:n<=8)(hL:∀i,i<n->(L i).length<=40):Calls prog 55 #[v] w λe w'=>∃v',e=.returned v'/\Iq w' v' n L/\Fr NoF w w':=by
 obtain⟨ivs,hs,hu⟩:=h;obtain⟨a,c,rfl,q1,q2⟩:=hs.shape;unfold maxLen at q2;have HS:=Hd hs;have HU:=Hd hu;have HLE:=Hd hL;clear hs hu hL;go_enter func55,ntmps55;go_wp2
 go_loopw [3,4] (λo i wr=>∃j:Nat,j<=n/\i=.int .i64 j/\∃xs,wr.ownsRow w.heap.size 135 1 o j xs/\(∀i,i<j->∃u,xs[i]?=some u/\SlC wr 3 u (L i).length (opsC (L i))/\∀b,u.ownBlock=some b->¬o.ownBlock=some b)/\(∀u∈xs,u.oneCell'=true)/\Fr NoF w wr) (λ_ i _=>n-(intOf i).toNat)
 case atStart=>exact⟨0,Nat.zero_le _,rfl,[],⟨rfl,.inl ⟨rfl,rfl⟩⟩,λi hi=>by omega,λu q=>(by cases q),Fr.refl _ _⟩
 case round=>
  obtain⟨j,hj,rfl,xs,ho,hx,h1,hf⟩:=hrel;have HO:=Hd ho;have HF:=Hd hf;have HX:=Hd hx;have H1:=Hd h1;have hxl:Hid (xs.length=j):=by have:=ho.1;show _=_;omega
  obtain⟨oa,ocp,rfl,_,_⟩:=(SlC.ofOwn ho h1).shape;have HOL:Hid (∀b,(Value.slice oa j ocp).ownBlock=some b->b<wr.heap.size):=SlC.lt (SlC.ofOwn ho h1);clear ho hx h1;by_cases hlt:j<n
  .obtain⟨b,off,c',ev',_,_,hb,cy⟩:=HS.out.at (k:=j) (by omega) (by omega)
   simp only[Value.slice.injEq]at ev';obtain⟨rfl,_,rfl⟩:=ev';obtain⟨u,hu1,hu2⟩:=HU.out j (by omega);obtain⟨ua,uc,rfl,hu3,hu4⟩:=hu2.shape;unfold maxLen at hu4;have HCY:Hid (∀W,Fr NoF w W->W.cell? ⟨b,off+j,none⟩=some (.slice ua (L j).length uc)):=λW f=>by rw[f.cell (p:=⟨b,off+j,none⟩) hb id];exact cy j _ hu1
   have HU2:=Hd hu2;have h40:=HLE.out j hlt;clear cy hu1 hu2 hf;go_wp2
   go_hide hQ
   obtain⟨wo,ewo⟩:∃x,x=wr:=⟨wr,rfl⟩;subst ewo
   go_loopw [5,6] (λo i wq=>∃k:Nat,k<=(L j).length/\i=.int .i64 k/\wq.ownsRow wo.heap.size 50 3 o k (opsC ((L j).take k))/\Fr NoF wo wq) (λ_ i _=>(L j).length-(intOf i).toNat)
   case atStart=>exact⟨0,Nat.zero_le _,rfl,⟨rfl,.inl ⟨rfl,rfl⟩⟩,Fr.refl _ _⟩
   case round=>
    obtain⟨k,hk,rfl,ho,hf⟩:=hrel;have HO2:=Hd ho;have HF2:=Hd hf;have HFW:=Hd (HF.out.trans hf (λ_ q=>.inl q));have cz:=HCY.out _ HFW.out;have hbw:=Nat.lt_of_lt_of_le hb HFW.out.size;clear ho hf;by_cases hlk:k<(L j).length
    .obtain⟨b2,off2,c2,ev',_,_,hb2,cy⟩:=((HU2.out.sl (by omega)).keep HFW.out).at (k:=k) hlk (by omega)
     simp only[Value.slice.injEq]at ev';obtain⟨rfl,_,rfl⟩:=ev';obtain⟨g0,g1,g2⟩:=oU (L j) hlk;have y0:wr.cell? ⟨b2,off2+k*3,none⟩=_:=cy _ _ g0;have y1:wr.cell? ⟨b2,off2+k*3+1,none⟩=_:=cy _ _ g1;have y2:wr.cell? ⟨b2,off2+k*3+2,none⟩=_:=cy _ _ g2;have HT:Hid (opsC ((L j).take (k+1))=opsC ((L j).take k)++opC (L j)[k]):=by show _=_;rw[List.take_succ_eq_append_getElem hlk,wV]
     generalize(L j)[k]=z at*;obtain⟨zk,zi,zx⟩:=z;simp only at y0 y1 y2;clear cy g0 g1 g2
     go_wp2_with fail
     refine(zv _ _ _ _).mono ?_;rintro e w4⟨rfl,f4⟩;have HO4:=Hd (am HO2.out f4 (λ_ _ q=>q));have HF4:=Hd (HF2.out.trans f4 (λ_ q=>.inl q));clear f4
     go_wp2_with(at_builtin;go_must(refine jM (base:=wo.heap.size) EIo rfl _ _ rfl (by rfl) (by rfl) (by have:=HF4.out.size;simp;omega) (am HO4.out ((Fr.refl NoF _).alloc _) (λ_ _ q=>q)) (SlC.ofOwn (bo (w0:=w4) (Nat.le_refl _) #[.int .i64 zk,.int .u32 (zi:Nat),.int .u64 (zx:Nat)] 50 3 1 _ rfl rfl (by unfold maxLen;omega)) (by simp[Value.oneCell'])) (by unfold maxLen;omega) (by omega) ?_);intro v' w2 hown' hf' _;have HF':=Hd hf';have HO':=Hd hown';clear hf' hown')
     go_roundw
     case rel=>
      refine⟨k+1,by omega,by go_num,?_,?_⟩
      .rw[HT.out];exact HO'.out
      .exact(HF4.out.alloc _).trans HF'.out (λi hi=>.inr (aL HO4.out i hi))
     case measure=>simp[intOf];omega
    .obtain rfl:k=(L j).length:=by omega
     rw[List.take_length]at HO2;have HO3:=Hd (am HO.out HF2.out (λ_ _ q=>q));have HU3:=Hd (SlC.ofOwn HO2.out (ma _));obtain⟨o2,c2,rfl,_,_⟩:=HU3.out.shape;go_wp2;subst hQ
     go_wp2_with(at_builtin;go_must(refine jM (base:=w.heap.size) Hn rfl _ _ rfl (by rfl) (by rfl) (by have:=HFW.out.size;simp;omega) (am HO3.out ((Fr.refl NoF _).alloc _) (λ_ _ q=>q)) (SlC.ofOwn (bo (w0:=wr) (Nat.le_refl _) #[.slice o2 (L j).length c2] 135 1 1 _ rfl rfl (by unfold maxLen;omega)) (by simp[Value.oneCell'])) (by unfold maxLen;omega) (by omega) ?_);intro v' w2 hown' hf' hob';have HF':=Hd hf';have HO':=Hd hown';have HB':=Hd hob';clear hf' hown' hob')
     go_roundw
     case rel=>
      have f5:Fr NoF wr (wr.alloc (.cells #[.slice o2 (L j).length c2] 135)):=(Fr.refl NoF _).alloc _;have hw:=HF2.out.size;refine⟨j+1,by omega,by go_num,_,HO'.out,rD hxl.out (P:=λi u=>SlC w2 3 u (L i).length (opsC (L i))/\∀b,u.ownBlock=some b->¬v'.ownBlock=some b) (λi hi=>?_) ⟨?_,λx hx hy=>?_⟩,λu q=>?_,?_⟩
      .obtain⟨u,k1,k2,k3⟩:=HX.out i hi
       refine⟨u,k1,((k2.keep HF2.out).keep f5).fr HF'.out k3,λx hx hy=>?_⟩;rcases HB'.out x hy with q|q
       .exact k3 x hx q
       .have:=k2.lt x hx;simp at q;omega
      .exact(HU3.out.keep f5).fr HF'.out (λx hx hy=>by have:=HOL.out x hy;have:=aL HO2.out x hx;omega)
      .rcases HB'.out x hy with q|q
       .have:=HOL.out x q;have:=aL HO2.out x hx;omega
       .have:=HU3.out.lt x hx;simp at q;omega
      .rcases List.mem_append.1 q with q|q
       .exact H1.out u q
       .simp at q;subst q;rfl
      .exact(HFW.out.trans f5 (λ_ q=>.inl q)).trans HF'.out (λi hi=>.inr (aL HO.out i hi))
     case measure=>simp[intOf];omega
  .obtain rfl:j=n:=by omega
   clear hf;go_wp2;go_returns;exact⟨_,rfl,⟨xs,SlC.ofOwn HO.out H1.out,λi hi=>by obtain⟨u,k1,k2,_⟩:=HX.out i hi;exact⟨u,k1,k2⟩⟩,HF.out⟩
end
end
end Go.Proofs.YtkjhnllcphidpaaGreatDoor
