/- Part 47. -/
import Derived.Test.YtoenclhimbpfeaaGreatDoorW46
namespace Go.Proofs.YtoenclhimbpfeaaGreatDoor
set_option linter.all false
set_option maxHeartbeats 16000000
set_option maxRecDepth 100000
section
open Go.Maps Go.Proofs.Tryz Go.RowKit
section
variable{w w':World}{db ob oo oc n:Nat}{F:Nat->Prop}{L:List OpF}
def rD(w:World)(ob oo:Nat)(L:List OpF):Prop:=ob<w.heap.size/\∀j,j<L.length+1->w.cell? ⟨ob,oo+j*3,none⟩=some (.int .i64 (opW L j).k)/\w.cell? ⟨ob,oo+j*3+1,none⟩=some (.int .u32 ((opW L j).id:Nat))/\w.cell? ⟨ob,oo+j*3+2,none⟩=some (.int .u64 ((opW L j).v:Nat))
theorem rD.fr{G:Nat->Prop}(h:rD w ob oo L)(f:Fr G w w')(hG:¬G ob):rD w' ob oo L:=
 ⟨Nat.lt_of_lt_of_le h.1 f.size,λj hj=>by
  obtain⟨a,b,c⟩:=h.2 j hj;exact⟨(f.cell (p:=⟨ob,_,none⟩) h.1 hG).trans a,(f.cell (p:=⟨ob,_,none⟩) h.1 hG).trans b,(f.cell (p:=⟨ob,_,none⟩) h.1 hG).trans c⟩⟩
theorem xw(k:Nat)(hk:k<5)(hn:1<=n/\n<=6)(hl:L.length<=120)(hL:∀o∈L,o.ok)(h:CD db ⟨12,[],[],[],0,0,false,0⟩ 0 w F)(hT:dE w)(ho:rD w ob oo L):
  Calls prog 9 #[.pointer (some ⟨db,0,none⟩),.int .i64 n,.string (DE k),.slice (some ⟨ob,oo,none⟩) (L.length+1) oc,.int .i64 1000000] w λe w'=>(∃ab lb FL,e=.returned (.tuple #[.slice (some ⟨ab,0,none⟩) (L.length+1) (L.length+1),.pointer (some ⟨lb,0,none⟩)])/\Blk w' ab ((L.length+1)*3) (gM (anW n (am0 12) L) (L.length+1))/\w.heap.size<=ab/\LV lb (amW n (am0 12) L L.length).ids (amW n (am0 12) L L.length).val 0 w' FL/\(∀i,FL i->w.heap.size<=i/\¬i=ab))/\Fr NoF w w':=by
 have HT:=Hd hT;have HO:=Hd ho;have HCP:=Hd (ui h);have HN:=Hd hn;have HL:=Hd hL;have HLL:=Hd hl;clear h hT ho hL;obtain⟨N,hNN⟩:∃N,N=L.length+1:=⟨_,rfl⟩;rw[<-hNN];have HNN:=Hd hNN;clear hNN;go_enter func9,ntmps9
 go_wp2_with fail
 refine HCP.out.mono ?_;rintro e w1⟨db1,F1,rfl,c1,n1,f1⟩;have C1:Hid (CD db1 ⟨12,[],[],[],0,0,false,0⟩ 0 w1 F1):=c1;have N1:=Hd n1;have FR1:=Hd f1;clear c1 n1 f1 HCP
 go_wp2_with fail
 refine(AU k hk w1 (by have:=HN.out;omega)).mono ?_;rintro e w2⟨rv,rfl,FA,hA,hAn,f2⟩;have FR2:=Hd (FR1.out.trans f2 (λ_ q=>.inl q));have C2:=Hd (C1.out.fr0 f2);have L1:=Hd C1.out.lt;have hsz:=FR1.out.size;have htl:=HT.out.lt;have HNW:=Hd (DA (m0:=0) C2.out (by omega) hA (λi q k=>by have:=L1.out i q;have:=hAn i k;omega) (HT.out.fr0 FR2.out) ⟨λq=>by have:=N1.out _ q;omega,λq=>by have:=hAn _ q;omega⟩ (by have:=HN.out;omega) (by omega));have NB:Hid (∀i,F1 i\/FA i->w.heap.size<=i):=λi q=>q.elim (N1.out i) (λq=>Nat.le_trans hsz (hAn i q))
 clear hA hAn hk hsz htl L1 N1 C1 C2 f2 hn hl
 go_wp2_with fail
 refine HNW.out.mono ?_;rintro e w3⟨p,hpn,hpd,_,rfl,⟨F3,z3,n3⟩,f3⟩;have Z3:=Hd z3;have HPN:=Hd hpn;have FR3:=Hd (FR2.out.trans f3 (λ_ q=>.inl q))
 have N3:Hid (∀i,F3 i->w.heap.size<=i):=λi q=>by
  rcases n3 i q with q|q|q
  .exact NB.out i (.inl q)
  .exact NB.out i (.inr q)
  .exact Nat.le_trans FR2.out.size q
 subst hpd;clear z3 f3 n3 HNW NB hpn;unfold PP.ptr
 go_wp2_with fail
 refine(Z3.out.late 1000000 (by unfold bg;omega) (by omega)).mono ?_;rintro e w4⟨rfl,F4,z4,f4,n4⟩;have Z4:=Hd z4;have FR4:=Hd (FR3.out.trans f4 (λi q=>.inr (N3.out i q)));have N4:Hid (∀i,F4 i->w.heap.size<=i):=λi q=>(n4 i q).elim (N3.out i) (λq=>Nat.le_trans FR3.out.size q)
 clear z4 f4 n4 Z3 N3;have hmk:=rH (N) (by have:=HLL.out;have:=HNN.out;omega) w4
 go_wp2_with fail
 have B5:Hid (Blk (w4.alloc (.cells (madeCells #[.int .i64 0,.int .u32 0,.int .u64 0] ((N)*3)) 48)) w4.heap.size ((N)*3) (gM (anW n (am0 12) L) 0)):=Blk.new _ _ _ _ _ _ rfl (by simp[size_madeCells]) (λi hi=>Bl hi _);have f5:Fr NoF w4 (w4.alloc (.cells (madeCells #[.int .i64 0,.int .u32 0,.int .u64 0] ((N)*3)) 48)):=(Fr.refl NoF w4).alloc _;have Z5:Hid (RW p n (am0 12) L 0 _ F4):=.inl ⟨Nat.zero_le _,lD.fro Z4.out f5 (λ_ _ q=>q) id⟩;have D5:Hid (∀i,F4 i->¬i=w4.heap.size):=λi q e=>by have:=lD.lt Z4.out i q;omega
 have FR5:=Hd (FR4.out.trans f5 (λ_ q=>.inl q));have S5:=Hd FR4.out.size;clear f5 Z4 FR4 hmk;generalize w4.alloc (.cells (madeCells #[.int .i64 0,.int .u32 0,.int .u64 0] ((N)*3)) 48)=w5 at*;generalize w4.heap.size=ab at*
 go_loopw [39] (λi wr=>∃j:Nat,j<=N/\i=.int .i64 j/\Fr NoF w wr/\∃F,RW p n (am0 12) L j wr F/\(∀i,F i->w.heap.size<=i/\¬i=ab)/\w.heap.size<=ab/\Blk wr ab ((N)*3) (gM (anW n (am0 12) L) j)) (λi _=>N-(intOf i).toNat)
 case atStart=>exact⟨0,by omega,rfl,FR5.out,F4,Z5.out,λi q=>⟨N4.out i q,D5.out i q⟩,S5.out,B5.out⟩
 case round=>
  obtain⟨j,hj,rfl,hf,F',hz,hF,hab,hb⟩:=hrel;have HZ:=Hd hz;have HFR:=Hd hf;have HFF:=Hd hF;have HB:=Hd hb;have HAB:=Hd hab;clear hz hF hb hab;by_cases hlt:j<N
  .have hjb:j<=500:=by have:=HNN.out;have:=HLL.out;omega
   have hO:=HO.out.fr hf id;obtain⟨y0,y1,y2⟩:=hO.2 j (by have:=HNN.out;omega);have yl:=hO.1;have htw:0<wr.heap.size:=Nat.lt_of_lt_of_le HT.out.lt hf.size
   have HC:Hid (∀W,Fr NoF wr W->Calls prog 21 #[p.ptr,(opW L j).val] W λe w'=>e=.returned (anW n (am0 12) L j).val/\Led (RW p n (am0 12) L (j+1)) F' W w'/\wr.heap.size<=W.heap.size/\Fr NoF wr W):=λW f=>
    (Cm HPN.out (by have:=HN.out;omega) (by have:=HNN.out;omega) HLL.out HL.out (DR.fro HZ.out f (λ_ _ q=>q) id) (Nat.lt_of_lt_of_le htw f.size)).mono λe w' ⟨q1,q2⟩=>⟨q1,q2,f.size,f⟩
   have HST:=Hd (vT (anW n (am0 12) L) j);clear hf htw hO;unfold PP.ptr OpF.val AnF.val at HC;generalize(anW n (am0 12) L j)=an at*;obtain⟨ae,ai,av⟩:=an;generalize(opW L j)=o at*;obtain⟨ok,oi,ov⟩:=o;simp only at HC HST y0 y1 y2
   go_wp2_with fail
   refine(HC.out _ (by repeat(first|exact Fr.refl NoF _|apply Fr.drew|apply Fr.alloc|refine Fr.setCell ?_ (.inr (Nat.le_refl _)) _))).mono ?_;rintro e w6⟨rfl,⟨F6,z6,f6,n6⟩,hsz,fW⟩;have fz:Fr (λi=>F' i) wr w6:=fW.none.trans f6 (λ_ q=>.inl q);have B6:=Hd (HB.out.fr fz (λq=>(HFF.out _ q).2 rfl));have z0:=B6.out.frozen (j*3);have z1:=B6.out.frozen (j*3+1);have z2:=B6.out.frozen (j*3+2);have x0:=B6.out.cell (i:=j*3) (by omega);have x1:=B6.out.cell (i:=j*3+1) (by omega);have x2:=B6.out.cell (i:=j*3+2) (by omega);have xl:=B6.out.lt;have hbl:=HB.out.lt
   have D6:Hid (∀i,F6 i->w.heap.size<=i/\¬i=ab):=λi q=>by
    rcases n6 i q with q|q
    .exact HFF.out i q
    .have:=HFR.out.size;exact⟨by omega,λe=>by omega⟩
   have FR6:=Hd (HFR.out.trans fz (λi q=>.inr (HFF.out i q).1));have Z6:=Hd z6;have AB1:=Hd (Nat.ne_of_gt (Nat.lt_of_lt_of_le HT.out.lt HAB.out));have HLT:=Hd hlt;clear z6 f6 n6 fz fW hsz y0 y1 y2 yl HC
   go_wp2_with fail
   go_roundw
   case rel=>
    have g:Fr (λi=>i=ab) w6 _:=(((Fr.refl (λi=>i=ab) w6).setCell (p:=⟨ab,j*3,none⟩) (.inl rfl) (.int .i64 ae)).setCell (p:=⟨ab,j*3+1,none⟩) (.inl rfl) (.int .u32 ai)).setCell (p:=⟨ab,j*3+2,none⟩) (.inl rfl) (.int .u64 av);exact⟨j+1,by have:=HLT.out;omega,by go_num,FR6.out.trans g (λi q=>.inr (by rw[q];exact HAB.out)),F6,DR.fro Z6.out g (λi q e=>(D6.out i q).2 e) (λe=>AB1.out e.symm),D6.out,HAB.out,by rw[<-HST.out];exact((B6.out.set (j*3) (.int .i64 ae)).set (j*3+1) (.int .u32 ai)).set (j*3+2) (.int .u64 av)⟩
   case measure=>simp[intOf];omega
  .obtain rfl:j=N:=by omega
   have hNN:=HNN.out;have HC7:Hid (∃m,jU p true (amW n (am0 12) L L.length) m wr F'):=HZ.out.elim (λq=>absurd q.1 (by have:=HNN.out;omega)) (λq=>⟨_,q.2⟩);obtain⟨mc,hc7⟩:=HC7.out;have HCP2:=Hd hc7.left;clear hc7 hf HC7 hNN
   go_wp2_with fail
   refine HCP2.out.mono ?_;rintro e w7⟨lb,F7,rfl,lv7,n7,f7⟩
   have KEY:Hid ((∃ab' lb' FL,Ending.returned (.tuple #[.slice (some ⟨ab,0,none⟩) (j) (j),.pointer (some ⟨lb,0,none⟩)])=.returned (.tuple #[.slice (some ⟨ab',0,none⟩) (j) (j),.pointer (some ⟨lb',0,none⟩)])/\Blk w7 ab' ((j)*3) (gM (anW n (am0 12) L) (j))/\w.heap.size<=ab'/\LV lb' (amW n (am0 12) L L.length).ids (amW n (am0 12) L L.length).val 0 w7 FL/\(∀i,FL i->w.heap.size<=i/\¬i=ab'))/\Fr NoF w w7):=
    ⟨⟨ab,lb,F7,rfl,HB.out.fr f7 id,HAB.out,lv7,λi q=>⟨Nat.le_trans HFR.out.size (n7 i q),λe=>by have:=HB.out.lt;have:=n7 i q;omega⟩⟩,HFR.out.trans f7 (λ_ q=>.inl q)⟩
   clear lv7 n7 f7 HCP2;go_wp2;go_returns;exact KEY.out
end
end
section
open Go.RowKit
section
variable{P:Program}{Q:Exit->Act->World->Prop}
def uG(P:Program)(ops:Array Oper)(last:Oper)(Q:Exit->Act->World->Prop):Exit->Act->World->Prop
 |.normal,a,w=>wpList P ops Q [last] a w
 |e,a,w=>Q e a w
def cJ(md:Region.Mode)(l:List Oper)(last:Oper):Bool:=
 ((List.range l.length).all λi=>(last.after.any λe=>Region.binds md e&&e.on==i)||(List.range l.length).any λj=>decide (i<j)&&match l[j]? with|none=>false|some o=>o.after.any λe=>Region.binds md e&&e.on==i)&&
 ((List.range l.length).all λi=>match l[i]? with
   |none=>false
   |some o=>(o.after.all λe=>decide (e.on<i))&&(match o.guard with|none=>true|some (g,_)=>decide (g<l.length)))&&
 (last.after.all λe=>decide (e.on<l.length))&&(match last.guard with|none=>true|some (g,_)=>decide (g<l.length))
def ClT(md:Region.Mode)(l:List Oper)(d:Array Bool):Prop:=∀(j:Nat) (o:Oper),l[j]?=some o->d.getD j false=true->∀e∈o.after,Region.binds md e=true->d.getD e.on false=true
variable{md:Region.Mode}{l:List Oper}{last:Oper}
theorem tail_wait(h:cJ md l last=true){i:Nat}(hi:i<l.length):(∃e∈last.after,Region.binds md e=true/\e.on=i)\/∃j o,i<j/\l[j]?=some o/\∃e∈o.after,Region.binds md e=true/\e.on=i:=by
 simp only[cJ,Bool.and_eq_true,List.all_eq_true,List.mem_range]at h;rcases Bool.or_eq_true _ _|>.mp (h.1.1.1 i hi)with q|q
 .obtain⟨e,he,hb⟩:=Array.any_eq_true'.1 q
  simp only[Bool.and_eq_true,beq_iff_eq]at hb;exact .inl ⟨e,he,hb⟩
 .obtain⟨j,hj,q⟩:=List.any_eq_true.1 q
  simp only[Bool.and_eq_true,decide_eq_true_eq]at q;obtain⟨q1,q2⟩:=q
  cases e:l[j]? with
  |none=>rw[e]at q2;cases q2
  |some o=>
   rw[e]at q2;obtain⟨e',he,hb⟩:=Array.any_eq_true'.1 q2;simp only[Bool.and_eq_true,beq_iff_eq]at hb;exact .inr ⟨j,o,q1,e,e',he,hb⟩
theorem eK(h:cJ md l last=true){i:Nat}{o:Oper}(ho:l[i]?=some o):(∀e∈o.after,e.on<i)/\∀g b,o.guard=some (g,b)->g<l.length:=by
 simp only[cJ,Bool.and_eq_true,List.all_eq_true,List.mem_range]at h;have:=h.1.1.2 i (List.getElem?_eq_some_iff.1 ho).1;rw[ho]at this;simp only[Bool.and_eq_true]at this;refine⟨λe he=>by simpa using Array.all_eq_true'.1 this.1 e he,λg b hg=>?_⟩;rw[hg]at this;simpa using this.2
theorem wH(h:cJ md l last=true):(∀e∈last.after,e.on<l.length)/\∀g b,last.guard=some (g,b)->g<l.length:=by
 simp only[cJ,Bool.and_eq_true]at h;refine⟨λe he=>by simpa using Array.all_eq_true'.1 h.1.2 e he,λg b hg=>?_⟩;have:=h.2;rw[hg]at this;simpa using this
theorem cZ(d:Array Bool)(j:Nat)(hj:j<d.size)(x b:Bool):(d.push b).getD j x=d.getD j x:=by
 simp[hj,Nat.lt_succ_of_lt hj,Array.getElem_push_lt]
theorem iu(d:Array Bool)(x b:Bool):(d.push b).getD d.size x=b:=by simp
theorem zO(d:Array Bool)(i:Nat)(hi:i<d.size)(b:Bool):(d.push b).setIfInBounds i true=(d.setIfInBounds i true).push b:=by
 apply Array.ext_getElem?;intro j;simp only[Array.getElem?_setIfInBounds,Array.getElem?_push,Array.size_setIfInBounds,Array.size_push];by_cases e:i=j
 .subst e
  have h1:i<d.size+1:=by omega
  have h2:¬i=d.size:=by omega
  simp[hi,h1,h2]
 .simp[e]
theorem lN{d:Array Bool}(hd:d.size=l.length){i:Nat}(hi:i<l.length)(h:cJ md l last=true):
  i∈Region.ready md (l++[last]).toArray (d.push false)↔i∈Region.ready md l.toArray d:=by
 rw[mem_ready,mem_ready,cZ d i (by omega)];have e:((l++[last]).toArray)[i]?=l.toArray[i]?:=by simp[List.getElem?_append_left hi]
 rw[e];constructor
 .rintro⟨h0,o,ho,ha⟩
  refine⟨h0,o,ho,λe he hb=>?_⟩;have hlt:=(eK h (by simpa using ho)).1 e he;have:=ha e he hb
  rwa [cZ d e.on (by omega)]at this
 .rintro⟨h0,o,ho,ha⟩
  refine⟨h0,o,ho,λe he hb=>?_⟩;have hlt:=(eK h (by simpa using ho)).1 e he;rw[cZ d e.on (by omega)];exact ha e he hb
theorem tK{d:Array Bool}(hd:d.size=l.length)(h:cJ md l last=true)(hr:Region.ready md l.toArray d=[]):∀i,i<l.length->d.getD i false=true:=by
 intro i
 induction i using Nat.strongRecOn with
 |_ i ih=>
  intro hi
  cases e:d.getD i false with
  |true=>rfl
  |false=>
   have hm:i∈Region.ready md l.toArray d:=by
    rw[mem_ready];refine⟨?_,l[i],by simp,λe' he hb=>?_⟩
    .have:i<d.size:=by omega
     simpa[this]using e
    .have hlt:=(eK h (List.getElem?_eq_getElem hi)).1 e' he
     exact ih e'.on hlt (by omega)
   rw[hr]at hm;cases hm
theorem kN{d:Array Bool}(hd:d.size=l.length)(h:cJ md l last=true)(hc:ClT md l d):l.length∈Region.ready md (l++[last]).toArray (d.push false)↔∀i,i<l.length->d.getD i false=true:=by
 rw[mem_ready];constructor
 .rintro⟨_,o,ho,ha⟩
  have:o=last:=by simpa using ho.symm
  subst this
  have key:∀k i,l.length-i=k->i<l.length->d.getD i false=true:=by
   intro k
   induction k using Nat.strongRecOn with
   |_ k ih=>
    intro i hk hi;rcases tail_wait h hi with⟨e,he,hb,rfl⟩|⟨j,o',hij,hj,e,he,hb,rfl⟩
    .have:=ha e he hb
     rwa [cZ d e.on (by omega)]at this
    .have hjl:=(List.getElem?_eq_some_iff.1 hj).1
     exact hc j o' hj (ih (l.length-j) (by omega) j rfl hjl) e he hb
  exact λi hi=>key _ i rfl hi
 .intro hall
  refine⟨by rw[<-hd];exact iu d true false,last,by simp,λe he hb=>?_⟩;have hlt:=(wH h).1 e he;rw[cZ d e.on (by omega)];exact hall e.on hlt
theorem ClT.set{d:Array Bool}(hd:d.size=l.length)(hc:ClT md l d){i:Nat}(hi:i∈Region.ready md l.toArray d):ClT md l (d.setIfInBounds i true):=by
 obtain⟨h0,o,ho,ha⟩:=mem_ready.1 hi;have hio:l[i]?=some o:=by simpa using ho
 have up:∀k,d.getD k false=true->(d.setIfInBounds i true).getD k false=true:=by
  intro k hk;simp only[Array.getD_eq_getD_getElem?,Array.getElem?_setIfInBounds]at*
  split
  .split<;>simp_all
  .exact hk
 intro j o' hj hdj e he hb;by_cases e':i=j
 .subst e'
  rw[hio]at hj
  injection hj with hj
  subst hj;exact up _ (ha e he hb)
 .refine up _ (hc j o' hj ?_ e he hb)
  simp only[Array.getD_eq_getD_getElem?,Array.getElem?_setIfInBounds,if_neg e']at hdj;simpa[Array.getD_eq_getD_getElem?]using hdj
theorem so(tmps:Array Value){g:Nat}(hg:g<l.length):yielded (l++[last]).toArray tmps g=yielded l.toArray tmps g:=by
 unfold yielded;rw[show((l++[last]).toArray)[g]?=l.toArray[g]? from by simp[List.getElem?_append_left hg]]
theorem wn(tmps:Array Value){o:Oper}(ho:∀g b,o.guard=some (g,b)->g<l.length):Region.wanted o (yielded (l++[last]).toArray tmps)=Region.wanted o (yielded l.toArray tmps):=by
 unfold Region.wanted
 cases e:o.guard with
 |none=>rfl
 |some x=>
  obtain⟨g,b⟩:=x;simp only[so tmps (ho g b e)]
theorem Bq{ops:Array Oper}{o:Oper}{a:Act}{w:World}{K:Act->World->Prop}(h:o.wp P a w K (uG P ops last Q)):o.wp P a w K Q:=by
 unfold Oper.wp at*;generalize(execOp a.eval o).run P w=r at*
 cases r with
 |ok n w'=>
  cases n<;>simp only[Oper.upon]at h⊢<;>
   first
    |exact h
    |exact Calls.mono h (λe w'' he=>by cases e<;>exact he)
 |halt x w'=>cases x<;>simp only[Oper.upon]at h⊢<;>exact h
theorem vV{i:Nat}(hi:i<l.length)(hok:cJ md l last=true){a:Act}{w:World}{K K':Act->World->Prop}(hK:∀a w,K a w->K' a w)
  (h:wpOp P l.toArray (uG P (l++[last]).toArray last Q) i K a w):wpOp P (l++[last]).toArray Q i K' a w:=by
 refine wpOp_mono hK ?_;unfold wpOp at*;rw[show((l++[last]).toArray)[i]?=l.toArray[i]? from by simp[List.getElem?_append_left hi]]
 cases e:l.toArray[i]? with
 |none=>rw[e]at h;exact h
 |some o=>
  rw[e]at h;simp only at h⊢;rw[wn a.tmps (eK hok (by simpa using e)).2]
  split
  .rename_i hw
   rw[if_pos hw]at h;exact h.imp Bq id
  .rename_i hw
   rw[if_neg hw]at h;exact h
theorem xI{a:Act}{w:World}(h:wpList P (l++[last]).toArray Q [last] a w){K:Act->World->Prop}(hK:∀a w,Q .normal a w->K a w):wpOp P (l++[last]).toArray Q l.length K a w:=by
 unfold wpOp;rw[show((l++[last]).toArray)[l.length]?=some last from by simp];simp only[wpList]at h⊢
 split
 .rename_i hw
  rw[if_pos hw]at h;exact h.imp (Oper.wp_mono hK) id
 .rename_i hw
  rw[if_neg hw]at h;exact hK _ _ h
theorem tS(hok:cJ md l last=true):∀(fuel:Nat) (d:Array Bool) (a:Act) (w:World),d.size=l.length->ClT md l d->
  wpAny P md l.toArray (uG P (l++[last]).toArray last Q) fuel d a w->wpAny P md (l++[last]).toArray Q (fuel+1) (d.push false) a w:=by
 have fin:∀(fuel:Nat) (d:Array Bool) (a:Act) (w:World),d.size=l.length->ClT md l d->Region.ready md l.toArray d=[]->wpList P (l++[last]).toArray Q [last] a w->
   wpAny P md (l++[last]).toArray Q (fuel+1) (d.push false) a w:=by
  intro fuel d a w hd hc hr hl;have hall:=tK (last:=last) hd hok hr;have hlr:=(kN hd hok hc).2 hall;refine⟨λh0=>(by rw[h0]at hlr;cases hlr),λi hi=>?_⟩
  have hil:i=l.length:=by
   rcases Nat.lt_or_ge i l.length with q|q
   .rw[lN hd q hok,hr]at hi;cases hi
   .obtain⟨_,o,ho,_⟩:=mem_ready.1 hi
    have:i<(l++[last]).toArray.size:=(Array.getElem?_eq_some_iff.1 ho).1;simp at this;omega
  subst hil;refine xI hl (λa' w' hq=>?_)
  have hset:(d.push false).setIfInBounds l.length true=d.push true:=by
   apply Array.ext_getElem?;intro j;simp only[Array.getElem?_setIfInBounds,Array.getElem?_push,Array.size_push];by_cases e:l.length=j
   .subst e
    have h2:l.length=d.size:=hd.symm;simp[h2]
   .have h3:¬j=d.size:=by omega
    simp[e,h3]
  have hnil:Region.ready md (l++[last]).toArray (d.push true)=[]:=by
   rw[List.eq_nil_iff_forall_not_mem];intro j hj;obtain⟨h0,o,ho,_⟩:=mem_ready.1 hj;have hj':j<(l++[last]).toArray.size:=(Array.getElem?_eq_some_iff.1 ho).1;simp at hj';rcases Nat.lt_or_ge j l.length with q|q
   .have h1:=hall j q
    rw[cZ d j (by omega)]at h0;have:j<d.size:=by omega
    simp[this]at h0 h1;rw[h0]at h1;cases h1
   .obtain rfl:j=d.size:=by omega
    rw[iu]at h0;cases h0
  rw[hset]
  cases fuel with
  |zero=>exact⟨hnil,hq⟩
  |succ f=>exact⟨λ_=>hq,by rw[hnil];simp⟩
 intro fuel
 induction fuel with
 |zero=>intro d a w hd hc h;exact fin 0 d a w hd hc h.1 h.2
 |succ fuel ih=>
  intro d a w hd hc h;by_cases hr:Region.ready md l.toArray d=[]
  .exact fin (fuel+1) d a w hd hc hr (h.1 hr)
  .refine⟨λh0=>?_,λi hi=>?_⟩
   .obtain⟨j,hj⟩:=List.exists_mem_of_ne_nil _ hr
    have hjl:j<l.length:=by
     obtain⟨_,o,ho,_⟩:=mem_ready.1 hj;have:=(Array.getElem?_eq_some_iff.1 ho).1;simpa using this
    have:=(lN hd hjl hok).2 hj;rw[h0]at this;cases this
   .rcases Nat.lt_or_ge i l.length with q|q
    .have hi':=(lN hd q hok).1 hi
     refine vV q hok (λa' w' hh=>?_) (h.2 i hi');rw[zO d i (by omega)];exact ih _ a' w' (by simp[hd]) (hc.set hd hi') hh
    .obtain⟨_,o,ho,_⟩:=mem_ready.1 hi
     have h2:i<(l++[last]).toArray.size:=(Array.getElem?_eq_some_iff.1 ho).1;have hil:i=l.length:=by simp at h2;omega
     subst hil;have hall:=(kN hd hok hc).1 hi
     have:Region.ready md l.toArray d=[]:=by
      rw[List.eq_nil_iff_forall_not_mem];intro j hj;obtain⟨h0,o,ho,_⟩:=mem_ready.1 hj;have hj':j<l.toArray.size:=(Array.getElem?_eq_some_iff.1 ho).1;have hj'':j<l.length:=by simpa using hj'
      have h1:=hall j hj'';have:j<d.size:=by omega
      simp[this]at h0 h1;rw[h0]at h1;cases h1
     exact(hr this).elim
theorem qQ(S:World->Prop)(n:Nat){id:Nat}{l:List Oper}{last:Oper}{a:Act}{w:World}(hm:P.follows .mixedOrders=true)(hn:l=l.take n++[last])(hln:(l.take n).length=n)(hok:cJ .any (l.take n) last=true)
  (h:wpAnyH P .any (l.take n).toArray (uG P l.toArray last Q) S n (Array.replicate n false) a w.drew):(Code.region id l.toArray true).wp P Q a w:=by
 refine wp_region_any hm ?_;have h1:=tS (P:=P) (Q:=Q) (md:=.any) hok n (Array.replicate n false) a w.drew (by simp[hln]) (λj o _ hd=>by simp[Array.getD_eq_getD_getElem?,Array.getElem?_replicate]at hd;split at hd<;>cases hd) (by rw[<-hn];exact wpAny_of_held _ _ _ _ h);rw[<-hn]at h1
 have e1:l.toArray.size=n+1:=by
  have e0:=congrArg List.length hn;rw[List.length_append,hln]at e0;simpa using e0
 have e2:(Array.replicate n false).push false=Array.replicate (n+1) false:=by
  apply Array.ext_getElem?;intro j;simp only[Array.getElem?_push,Array.getElem?_replicate,Array.size_replicate];by_cases e:j=n
  .subst e;simp
  .by_cases h2:j<n
   .have:j<n+1:=by omega
    simp[e,h2,this]
   .have:¬j<n+1:=by omega
    simp[e,h2,this]
 rw[e2]at h1;rw[e1];exact h1
end
end
section
open Go.Maps Go.RowKit
def opC(o:OpF):List Value:=[.int .i64 o.k,.int .u32 (o.id:Nat),.int .u64 (o.v:Nat)]
def opsC(l:List OpF):List Value:=l.flatMap opC
theorem oU(l:List OpF){k:Nat}(hk:k<l.length):(opsC l)[k*3]?=some (.int .i64 l[k].k)/\(opsC l)[k*3+1]?=some (.int .u32 (l[k].id:Nat))/\(opsC l)[k*3+2]?=some (.int .u64 (l[k].v:Nat)):=by
 induction l generalizing k with
 |nil=>simp at hk
 |cons x l ih=>
  cases k with
  |zero=>exact⟨rfl,rfl,rfl⟩
  |succ k=>
   obtain⟨q0,q1,q2⟩:=ih (k:=k) (by simpa using hk);have e:∀j,(opsC (x::l))[j+3]?=(opsC l)[j]?:=λj=>by simp[opsC,opC]
   rw[show(k+1)*3=k*3+3 by omega,e,show k*3+3+1=k*3+1+3 by omega,e,show k*3+3+2=k*3+2+3 by omega,e];exact⟨q0,q1,q2⟩
end
section
open Go.Maps Go.Proofs.Tryz Go.RowKit
theorem kD(l:List OpF)(o:OpF):opsC (l++[o])=opsC l++opC o:=by simp[opsC]
theorem jl(l:List OpF):∀u∈opsC l,u.oneCell'=true:=by
 intro u hu;obtain⟨o,_,ho⟩:=List.mem_flatMap.1 hu;simp only[opC,List.mem_cons,List.not_mem_nil,or_false]at ho;rcases ho with rfl|rfl|rfl<;>rfl
theorem Am(w:World)(x y z x' y' z':Value){t t':TypeId}:Blk ((w.alloc (.cells #[x,y,z] t)).alloc (.cells #[x',y',z'] t')) (w.heap.size+1) 3 (λi=>match i with|0=>x'|1=>y'|_=>z'):=by
 have:=lQ (w.alloc (.cells #[x,y,z] t)) x' y' z' (t:=t')
 rwa [World.size_alloc]at this
theorem ye(k id x:Int)(w:World):Calls prog 17 #[.agg #[.int .i64 k,.int .u32 id,.int .u64 x]] w λe w'=>e=.returned (.agg #[.int .i64 k,.int .u32 id,.int .u64 x])/\Fr NoF w w':=by
 go_enter func17,ntmps17;go_wp2
 (try simp only[Exit.inBlock,Exit.then])
 refine bodyPost_ret (af Tryz.results17 _ _ (Am w _ _ _ _ _ _) rfl underlying36 rfl (by kernel_rfl)) rfl ?_;exact⟨rfl,((Fr.refl NoF w).alloc _).alloc _⟩
theorem pI(k id x:Int)(w:World):Calls prog 10 #[.agg #[.int .i64 k,.int .u32 id,.int .u64 x]] w λe w'=>e=.returned (.agg #[.int .i64 k,.int .u32 id,.int .u64 x])/\Fr NoF w w':=by
 go_enter func10,ntmps10;go_wp2
 (try simp only[Exit.inBlock,Exit.then])
 refine bodyPost_ret (af Tryz.results10 _ _ (Am w _ _ _ _ _ _) rfl underlying45 rfl (by kernel_rfl)) rfl ?_;exact⟨rfl,((Fr.refl NoF w).alloc _).alloc _⟩
section
variable{w w':World}{v:Value}{L:List OpF}
theorem DY:EI prog 32 36 3 24:=EI.mk' (z:=.agg #[.int .i64 0,.int .u32 0,.int .u64 0]) underlying32 (by kernel_rfl) rfl (by decide)
theorem sF(h:SlC w 3 v L.length (opsC L)):Calls prog 8 #[v] w λe w'=>∃v',e=.returned v'/\w'.ownsRow w.heap.size 36 3 v' (L.take 120).length (opsC (L.take 120))/\Fr NoF w w':=by
 obtain⟨a,c,rfl,q1,q2⟩:=h.shape;unfold maxLen at q2;have HS:=Hd h;clear h;go_enter func8,ntmps8;go_wp2
 go_loopw [3,4] (λo i wr=>∃k:Nat,k<=L.length/\k<=120/\i=.int .i64 k/\wr.ownsRow w.heap.size 36 3 o k (opsC (L.take k))/\Fr NoF w wr) (λ_ i _=>L.length-(intOf i).toNat)
 case atStart=>exact⟨0,Nat.zero_le _,by omega,rfl,⟨rfl,.inl ⟨rfl,rfl⟩⟩,Fr.refl _ _⟩
 case round=>
  obtain⟨k,hk,hk2,rfl,ho,hf⟩:=hrel;have HO:=Hd ho;have HF:=Hd hf;have hko:Hid (k=(L.take k).length):=by show _=_;rw[List.length_take];omega
  obtain⟨o1,o2,rfl,_,_⟩:=(SlC.ofOwn ho (jl _)).shape;clear ho;by_cases hgo:k<L.length/\k<120
  .obtain⟨hlk,h120⟩:=hgo
   obtain⟨b2,off2,c2,ev',_,_,hb2,cy⟩:=(HS.out.keep hf).at (k:=k) hlk (by omega);simp only[Value.slice.injEq]at ev';obtain⟨rfl,_,rfl⟩:=ev';obtain⟨g0,g1,g2⟩:=oU L hlk;have y0:wr.cell? ⟨b2,off2+k*3,none⟩=_:=cy _ _ g0;have y1:wr.cell? ⟨b2,off2+k*3+1,none⟩=_:=cy _ _ g1;have y2:wr.cell? ⟨b2,off2+k*3+2,none⟩=_:=cy _ _ g2;have HT:Hid (opsC (L.take (k+1))=opsC (L.take k)++opC L[k]):=by show _=_;rw[List.take_succ_eq_append_getElem hlk,kD]
   generalize L[k]=z at*;obtain⟨zk,zi,zx⟩:=z;simp only at y0 y1 y2;clear cy g0 g1 g2 hf
   go_wp2_with fail
   refine(ye _ _ _ _).mono ?_;rintro e w4⟨rfl,f4⟩;have HO4:=Hd (ak HO.out f4 (λ_ _ q=>q));have HF4:=Hd (HF.out.trans f4 (λ_ q=>.inl q));clear f4
   go_wp2_with(at_builtin;go_must(refine eT (base:=w.heap.size) DY rfl _ _ rfl (by rfl) (by rfl) (by have:=HF4.out.size;simp;omega) (ak HO4.out ((Fr.refl NoF _).alloc _) (λ_ _ q=>q)) (SlC.ofOwn (aQ (w0:=w4) (Nat.le_refl _) #[.int .i64 zk,.int .u32 (zi:Nat),.int .u64 (zx:Nat)] 36 3 1 _ rfl rfl (by unfold maxLen;omega)) (by simp[Value.oneCell'])) (by unfold maxLen;omega) (by omega) ?_);intro v' w2 hown' hf' _;have HF':=Hd hf';have HO':=Hd hown';clear hf' hown')
   go_roundw
   case rel=>
    refine⟨k+1,by omega,by omega,by go_num,?_,?_⟩
    .rw[HT.out];exact HO'.out
    .exact(HF4.out.alloc _).trans HF'.out (λi hi=>.inr (aj HO4.out i hi))
   case measure=>simp[intOf];omega
  .have hgo2:((k:Int)<(L.length:Int)/\decide ((k:Int)<120)=false)\/decide ((k:Int)<(L.length:Int))=false:=by
    by_cases c:k<L.length
    .exact .inl ⟨by omega,by simp;omega⟩
    .exact .inr (by simp;omega)
   have e1:Hid (L.take k=L.take 120/\k=(L.take 120).length):=by
    show _/\_
    by_cases c:k<L.length
    .have:k=120:=by omega
     subst this;exact⟨rfl,by rw[List.length_take];omega⟩
    .rw[List.take_of_length_le (by omega),List.take_of_length_le (by omega)]
     exact⟨rfl,by omega⟩
   have KEY:Hid (∃v',Ending.returned (.slice o1 k o2)=.returned v'/\wr.ownsRow w.heap.size 36 3 v' (L.take 120).length (opsC (L.take 120))/\Fr NoF w wr):=⟨_,rfl,by rw[<-e1.out.1,show(L.take k).length=k from hko.out.symm];exact HO.out,HF.out⟩;clear hf;rcases hgo2 with⟨g1,g2⟩|g1<;>go_wp2
   all_goals
    go_returns;exact KEY.out
end
end
end Go.Proofs.YtoenclhimbpfeaaGreatDoor
