/- Part 29. -/
import Derived.Test.YtkjhnllcphidpaaGreatDoorM28
namespace Go.Proofs.YtkjhnllcphidpaaGreatDoor
set_option linter.all false
set_option maxHeartbeats 16000000
set_option maxRecDepth 100000
section
open Go.Proofs.Tryz Go.RowKit
structure Pg where
 id:Nat
 v:Nat
 pins:Nat
instance:Inhabited Pg:=⟨⟨0,0,0⟩⟩
def BW(p:Pg):List Value:=[.int .u32 (p.id:Nat),.int .u64 (p.v:Nat),.int .i64 (p.pins:Nat)]
def gC(l:List Pg):List Value:=l.flatMap BW
theorem gT(l:List Pg):(gC l).length=l.length*3:=by
 induction l with
 |nil=>rfl
 |cons a l ih=>simp only[gC,List.flatMap_cons,List.length_append,List.length_cons,BW,List.length_nil];unfold gC at ih;omega
theorem lH(a b:List Pg):gC (a++b)=gC a++gC b:=by unfold gC;rw[List.flatMap_append]
theorem ya:∀(l:List Pg) {i:Nat} (h:i<l.length),(gC l)[i*3]?=some (.int .u32 (l[i].id:Nat))/\(gC l)[i*3+1]?=some (.int .u64 (l[i].v:Nat))/\(gC l)[i*3+2]?=some (.int .i64 (l[i].pins:Nat))
 |[],i,h=>by simp at h
 |a::l,0,h=>by simp[gC,BW]
 |a::l,i+1,h=>by
  have ih:=ya l (i:=i) (by simpa using h);have e:gC (a::l)=[.int .u32 (a.id:Nat),.int .u64 (a.v:Nat),.int .i64 (a.pins:Nat)]++gC l:=rfl;have h0:∀j,([Value.int .u32 (a.id:Nat),.int .u64 (a.v:Nat),.int .i64 (a.pins:Nat)]++gC l)[j+3]?=(gC l)[j]?:=λj=>by simp
  rw[e,show(i+1)*3=i*3+3 from by omega,h0,show i*3+3+1=(i*3+1)+3 from by omega,h0,show i*3+3+2=(i*3+2)+3 from by omega,h0];exact ih
theorem dn(l:List Pg):∀u∈gC l,u.oneCell'=true:=by
 intro u hu;obtain⟨p,_,h⟩:=List.mem_flatMap.1 hu;simp[BW]at h;rcases h with rfl|rfl|rfl<;>rfl
theorem BS(l:List Pg)(k:Nat):(gC l).take (k*3)=gC (l.take k):=by
 rcases Nat.le_total k l.length with h|h
 .have e:gC l=gC (l.take k)++gC (l.drop k):=by rw[<-lH,List.take_append_drop]
  rw[e,List.take_left' (by rw[gT,List.length_take];omega)]
 .rw[List.take_of_length_le (by rw[gT];omega),List.take_of_length_le h]
theorem A6(l:List Pg)(k:Nat):(gC l).drop (k*3)=gC (l.drop k):=by
 rcases Nat.le_total k l.length with h|h
 .have e:gC l=gC (l.take k)++gC (l.drop k):=by rw[<-lH,List.take_append_drop]
  rw[e,List.drop_left' (by rw[gT,List.length_take];omega)]
 .rw[List.drop_of_length_le (by rw[gT];omega),List.drop_of_length_le h];rfl
def gF(l:List Pg)(i:Nat):Value:=((gC l)[i]?).getD (.bool false)
theorem tV(l:List Pg):(List.range (l.length*3)).map (gF l)=gC l:=by
 apply List.ext_getElem?;intro j;by_cases h:j<l.length*3
 .have h2:j<(gC l).length:=by rw[gT];exact h
  simp[gF,h,h2]
 .rw[List.getElem?_eq_none (by simp;omega),List.getElem?_eq_none (by rw[gT];omega)]
theorem Ax(l:List Pg){k:Nat}(h:k<l.length):gF l (k*3)=.int .u32 (l[k].id:Nat)/\gF l (k*3+1)=.int .u64 (l[k].v:Nat)/\gF l (k*3+2)=.int .i64 (l[k].pins:Nat):=by
 obtain⟨h1,h2,h3⟩:=ya l h;unfold gF;rw[h1,h2,h3];exact⟨rfl,rfl,rfl⟩
theorem Ed(l:List Pg){k:Nat}(h:k<l.length)(p:Pg)(hid:p.id=l[k].id){c:Nat}(hc:c=1/\p.pins=l[k].pins\/c=2/\p.v=l[k].v):
  ∀i,i<l.length*3->upd (gF l) (k*3+c) (if c=1 then .int .u64 (p.v:Nat)else .int .i64 (p.pins:Nat)) i=gF (l.set k p) i:=by
 intro i hi;have hl:(l.set k p).length=l.length:=List.length_set;have hm:i/3<l.length:=by omega
 obtain⟨a1,a2,a3⟩:=Ax l hm;obtain⟨b1,b2,b3⟩:=Ax (l.set k p) (k:=i/3) (by omega);have hr:i%3=0\/i%3=1\/i%3=2:=by omega
 by_cases ek:k=i/3
 .subst ek
  simp only[List.getElem_set_self]at b1 b2 b3;rcases hr with q|q|q
  .have ei:i=i/3*3:=by omega
   have hne:¬i=i/3*3+c:=by omega
   rw[ab _ _ hne];rw[<-ei]at a1 b1;rw[a1,b1,hid]
  .have ei:i=i/3*3+1:=by omega
   rw[<-ei]at a2 b2;rcases hc with⟨rfl,h2⟩|⟨rfl,h2⟩
   .rw[<-ei,upd_same,b2];rfl
   .rw[ab _ _ (by omega),a2,b2,h2]
  .have ei:i=i/3*3+2:=by omega
   rw[<-ei]at a3 b3;rcases hc with⟨rfl,h2⟩|⟨rfl,h2⟩
   .rw[ab _ _ (by omega),a3,b3,h2]
   .rw[<-ei,upd_same,b3];rfl
 .have hc3:c<=2:=by omega
  rw[ab _ _ (by omega)];simp only[List.getElem_set_ne ek]at b1 b2 b3;rcases hr with q|q|q
  .have ei:i=i/3*3:=by omega
   rw[<-ei]at a1 b1;rw[a1,b1]
  .have ei:i=i/3*3+1:=by omega
   rw[<-ei]at a2 b2;rw[a2,b2]
  .have ei:i=i/3*3+2:=by omega
   rw[<-ei]at a3 b3;rw[a3,b3]
def atG(l:List Pg)(id:Nat):Option Nat:=l.findIdx? (λp=>p.id==id)
def eF:Option Nat->Int
 |none=> -1
 |some k=>k
theorem yE{l:List Pg}{id:Nat}(h:∀k (hk:k<l.length),¬l[k].id=id):atG l id=none:=by
 unfold atG;rw[List.findIdx?_eq_none_iff];intro p hp;obtain⟨k,hk,rfl⟩:=List.mem_iff_getElem.1 hp;simpa using h k hk
theorem AU{l:List Pg}{id k:Nat}(hk:k<l.length)(h:l[k].id=id)(hn:∀j (hj:j<k),¬(l[j]'(by omega)).id=id):atG l id=some k:=by
 unfold atG;rw[List.findIdx?_eq_some_iff_getElem];exact⟨hk,by simpa using h,λj hj=>by simpa using hn j hj⟩
theorem Ee{l:List Pg}{id k:Nat}(h:atG l id=some k):∃hk:k<l.length,l[k].id=id:=by
 unfold atG at h;rw[List.findIdx?_eq_some_iff_getElem]at h;obtain⟨hk,h1,_⟩:=h;exact⟨hk,by simpa using h1⟩
def pinL(l:List Pg):Nat:=l.countP (λp=>decide (0<p.pins))
theorem kf(l:List Pg):pinL l<=l.length:=List.countP_le_length
theorem vC(l:List Pg){k:Nat}(h:k<l.length):pinL (l.take (k+1))=pinL (l.take k)+(if 0<l[k].pins then 1 else 0):=by
 rw[List.take_succ_eq_append_getElem h];unfold pinL;rw[List.countP_append];by_cases q:0<l[k].pins<;>simp[q]
theorem EIG:EI prog 39 56 3 24:=EI.mk' (z:=.agg #[.int .u32 0,.int .u64 0,.int .i64 0]) underlying39 (by kernel_rfl) rfl (by decide)
def rgC(n room:Nat)(lv:Value):Nat->Value
 |0=>.int .i64 n
 |1=>.int .i64 room
 |_=>lv
structure RG(w:World)(r n room:Nat)(l:List Pg)(lv:Value):Prop where
 hd:Blk w r 3 (rgC n room lv)
 hl:SlF w 56 3 lv l.length (gF l)
 nb:∀i,lv.ownBlock=some i->¬i=r
 b1:l.length<=65535/\n<=65535/\room<=65535
 ok:∀p∈l,hO p.id/\okV p.v/\p.pins<1000000
def GFr(r:Nat)(lv:Value):Nat->Prop:=λi=>i=r\/lv.ownBlock=some i
section
variable{w w':World}{r n room:Nat}{l:List Pg}{lv:Value}
theorem RG.fr(h:RG w r n room l lv){G:Nat->Prop}(f:Fr G w w')(hG:∀i,GFr r lv i->¬G i):RG w' r n room l lv:=
 ⟨h.hd.fr f (hG r (.inl rfl)),h.hl.fr f (λb q=>hG b (.inr q)),h.nb,h.b1,h.ok⟩
theorem RG.fr0(h:RG w r n room l lv)(f:Fr NoF w w'):RG w' r n room l lv:=h.fr f (λ_ _ q=>q)
theorem RG.lt(h:RG w r n room l lv):∀i,GFr r lv i->i<w.heap.size:=by
 rintro i(rfl|q)
 .exact h.hd.lt
 .exact h.hl.lt i q
theorem RG.c2(h:RG w r n room l lv):w.cell? ⟨r,2,none⟩=some lv:=h.hd.cell (i:=2) (by omega)
theorem RG.c0(h:RG w r n room l lv):w.cell? ⟨r,0,none⟩=some (.int .i64 n):=h.hd.cell (i:=0) (by omega)
theorem RG.c1(h:RG w r n room l lv):w.cell? ⟨r,1,none⟩=some (.int .i64 room):=h.hd.cell (i:=1) (by omega)
theorem RG.at(h:RG w r n room l lv){k:Nat}(hk:k<l.length):∃g cap,lv=.slice (some ⟨g,0,none⟩) l.length cap/\l.length<=cap/\cap<=9223372036854775807/\g<w.heap.size/\
  w.cell? ⟨g,k*3,none⟩=some (.int .u32 (l[k].id:Nat))/\w.cell? ⟨g,k*3+1,none⟩=some (.int .u64 (l[k].v:Nat))/\w.cell? ⟨g,k*3+2,none⟩=some (.int .i64 (l[k].pins:Nat))/\(∀i,w.frozen? ⟨g,i,none⟩=false):=by
 obtain⟨g,cap,e,h1,h2,h3,h4,h5⟩:=h.hl.at (by omega);obtain⟨a1,a2,a3⟩:=Ax l hk;unfold maxLen at h2;exact⟨g,cap,e,h1,by omega,h3,by rw[h5 _ (by omega),a1],by rw[h5 _ (by omega),a2],by rw[h5 _ (by omega),a3],h4⟩
theorem az(h:RG w r n room l lv)(id:Nat):Calls prog 51 #[.pointer (some ⟨r,0,none⟩),.int .u32 id] w λe w'=>e=.returned (.int .i64 (eF (atG l id)))/\w=w':=by
 have c2:=h.c2;have lr:=h.hd.lt;obtain⟨a,c,rfl,q1,q2⟩:=h.hl.shape;unfold maxLen at q2;have HS:=Hd h;have hll:l.length<=65535:=h.b1.1;clear h;go_enter func51,ntmps51;go_wp2
 go_loopw [5] (λi wr=>∃k:Nat,k<=l.length/\i=.int .i64 k/\wr=w/\Hid (∀j (hj:j<l.length),j<k->¬l[j].id=id)) (λi _=>l.length-(intOf i).toNat)
 case atStart=>exact⟨0,Nat.zero_le _,rfl,rfl,λj _ hj=>(by omega)⟩
 case round=>
  obtain⟨k,hk,rfl,rfl,HN⟩:=hrel;by_cases hlt:k<l.length
  .obtain⟨g,cap,ev,_,_,hb,cy,_,_,_⟩:=HS.out.at hlt
   simp only[Value.slice.injEq]at ev;obtain⟨rfl,_,rfl⟩:=ev;by_cases he:l[k].id=id
   .have HA:Hid (atG l id=some k):=AU hlt he (λj hj=>HN.out j (by omega) hj)
    rw[he]at cy;clear he HN;go_wp2;go_returns;exact⟨by rw[HA.out];rfl,rfl⟩
   .have HE:=Hd he
    have hne:¬((l[k].id:Nat):Int)=(id:Int):=λq=>he (by omega)
    clear he;generalize hy:l[k].id=y at cy hne;have HY:=Hd hy;have hbq:((y:Int)==(id:Int))=false:=by simpa using hne
    clear hy;go_wp2
    go_roundw
    case rel=>
     refine⟨k+1,by omega,by go_num,by first|rfl|trivial,λj hj hjk=>?_⟩;by_cases e:j=k
     .subst e;exact HE.out
     .exact HN.out j hj (by omega)
    case measure=>simp[intOf]<;>omega
  .obtain rfl:k=l.length:=by omega
   have HA:Hid (atG l id=none):=yE (λj hj=>HN.out j hj hj);clear HN;go_wp2;go_returns;exact⟨by rw[HA.out];rfl,rfl⟩
theorem bN(h:RG w r n room l lv):Calls prog 52 #[.pointer (some ⟨r,0,none⟩)] w λe w'=>e=.returned (.bool (decide (n<=pinL l)))/\w=w':=by
 have c2:=h.c2;have c0:=h.c0;have lr:=h.hd.lt;obtain⟨a,c,rfl,q1,q2⟩:=h.hl.shape;unfold maxLen at q2;have HS:=Hd h;have hll:l.length<=65535:=h.b1.1;have hpl:=kf l;clear h;go_enter func52,ntmps52;go_wp2
 go_loopw [3,4] (λc i wr=>∃k:Nat,k<=l.length/\i=.int .i64 k/\wr=w/\c=.int .i64 (pinL (l.take k):Nat)) (λ_ i _=>l.length-(intOf i).toNat)
 case atStart=>exact⟨0,Nat.zero_le _,rfl,rfl,rfl⟩
 case round=>
  obtain⟨k,hk,rfl,rfl,rfl⟩:=hrel;by_cases hlt:k<l.length
  .obtain⟨g,cap,ev,_,_,hb,_,_,cy,_⟩:=HS.out.at hlt
   simp only[Value.slice.injEq]at ev;obtain⟨rfl,_,rfl⟩:=ev;have HP:=Hd (vC l hlt);have hpk:=Nat.le_trans (kf (l.take k)) (List.length_take_le k l);by_cases he:0<l[k].pins
   .have HE:=Hd he
    generalize l[k].pins=y at cy he HP HE;generalize pinL (l.take k)=z at*;have hcw:IntKind.i64.wrap ((z:Int)+1)=(z:Int)+1:=IntWalk.i64_in _ (by omega);have hg:decide (0<(y:Int))=true:=by simp;omega
    clear he;go_wp2
    go_roundw
    case rel=>exact⟨k+1,by omega,by go_num,by first|rfl|trivial,by rw[HP.out,if_pos HE.out];go_num⟩
    case measure=>simp[intOf]<;>omega
   .have HE:=Hd he
    generalize l[k].pins=y at cy he HP HE;generalize pinL (l.take k)=z at*;have hg:decide (0<(y:Int))=false:=by simp;omega
    clear he;go_wp2
    go_roundw
    case rel=>exact⟨k+1,by omega,by go_num,by first|rfl|trivial,by rw[HP.out,if_neg HE.out];rfl⟩
    case measure=>simp[intOf]<;>omega
  .obtain rfl:k=l.length:=by omega
   rw[List.take_length];go_wp2;go_returns;exact⟨by simp,rfl⟩
end
end
section
open Go.Maps Go.Proofs.Tryz Go.RowKit
section
variable{w w':World}{b n room pin len mb L:Nat}{pg:Nat->Option (Nat×Nat)}{v:Value}{h:Nat->Nat}
theorem mJ(room:Nat){pg:Nat->Option (Nat×Nat)}{id:Nat}{p p':Nat×Nat}(hp:pg id=some p):bn room (aT pg id (some p'))=bn room pg:=by
 funext x
 unfold bn;by_cases e:x+1=id
 .rw[e,eC,hp];rfl
 .rw[bH _ _ e]
theorem MM.put(H:MM w b n room pg pin len mb v h L){id:Nat}{p p':Nat×Nat}(hp:pg id=some p)(hok:okV p'.1/\p'.2<1000000)(hm:MpV prog 42 .u32 fj w' mb (if(pgM pg (id:Int)).isSome then len else len+1) (dJ (pgM pg) (id:Int) (some (ew p'))))(f:Fr (λi=>i=mb) w w'):
  MM w' b n room (aT pg id (some p')) pin len mb v h L:=by
 have e:(pgM pg (id:Int)).isSome=true:=by rw[oU,hp];rfl
 rw[e,if_pos rfl,show some (ew p')=(some p').map ew from rfl,vl]at hm;have hl:=H.lc.fr f (λq=>H.nb.1 q.symm) (λk q e=>H.nb.2 (e▸q));refine⟨by rw[mJ room hp];exact hl,hm,λx q hx=>?_,by rw[mJ room hp];exact H.num,H.nb,λx q hx=>?_,H.hn,H.hp⟩
 .by_cases e:x=id
  .subst e;exact H.dom x p hp
  .rw[bH _ _ e]at hx;exact H.dom x q hx
 .by_cases e:x=id
  .subst e;rw[eC]at hx;cases hx;exact hok
  .rw[bH _ _ e]at hx;exact H.ok x q hx
theorem DD(n mb room fc:Nat)(v:Value)(pin pin':Nat):∀i,i<6->upd (mC n mb room fc v pin) 5 (.int .i64 (pin':Nat)) i=mC n mb room fc v pin' i:=by
 intro i hi
 match i,hi with
 |0,_|1,_|2,_|3,_|4,_|5,_=>rfl
theorem MM.setPin(H:MM w b n room pg pin len mb v h L){pin':Nat}(hp:pin'<=len):MM (w.setCell ⟨b,5,none⟩ (.int .i64 (pin':Nat))) b n room pg pin' len mb v h L/\Fr (λi=>i=b) w (w.setCell ⟨b,5,none⟩ (.int .i64 (pin':Nat))):=by
 have f:Fr (λi=>i=b) w (w.setCell ⟨b,5,none⟩ (.int .i64 (pin':Nat))):=(Fr.refl (λi=>i=b) w).setCell (p:=⟨b,5,none⟩) (.inl rfl) _;refine⟨⟨⟨(H.lc.blk.set 5 _).congr (DD _ _ _ _ _ _ _),H.lc.inb,rfl,rfl,rfl,⟨H.lc.ls.r.fr f (λk q e=>H.lc.nb (e▸q)),H.lc.ls.dom⟩,H.lc.nb⟩,H.mp.fr f H.nb.1,H.dom,H.num,H.nb,H.ok,H.hn,hp⟩,f⟩
theorem MM.len_le(H:MM w b n room pg pin len mb v h L):len<=65535:=by
 have:=H.num;have:=H.lc.ls.r.hi;omega
theorem q9(H:MM w b n room pg pin len mb v h L){id:Nat}(hid:hO id){x:Nat}(hx:okV x):Calls prog 63 #[.pointer (some ⟨b,0,none⟩),.int .u32 id,.int .u64 x] w λe w'=>e=.returned (.int .i64 (heldE (pg id)))/\
  MM w' b n room (if heldE (pg id)=0 then aT pg id (some (x,heldY (pg id)))else pg) pin len mb v h L/\Fr (MF b mb v h L) w w':=by
 have HH:Hid (Calls prog 92 #[.pointer (some ⟨b,0,none⟩),.int .u32 id] w _):=tu H hid;unfold rh at HH;have HM:=Hd H;have hlen:=H.len_le;have hwf:=CZ hid;by_cases h0:heldE (pg id)=0
 .obtain⟨pv,pn,hp,hpn⟩:∃pv pn,pg id=some (pv,pn)/\¬pn=0:=by
   cases hp:pg id with
   |none=>rw[hp]at h0;simp[heldE]at h0
   |some p=>
    refine⟨p.1,p.2,rfl,λq=>?_⟩;rw[hp]at h0;simp[heldE,q]at h0
  have hY:heldY (pg id)=pn:=by rw[hp];rfl
  have HPN:Hid (pn<1000000):=(H.ok id _ hp).2;rw[if_pos h0];rw[h0]at HH⊢;rw[hY]at HH⊢;have KM:Hid (∀W w2,Fr NoF w W->MpV prog 42 .u32 fj w2 mb (if(pgM pg (id:Int)).isSome then len else len+1) (dJ (pgM pg) (id:Int) (some (.agg #[.int .u64 x,.int .i64 pn])))->Fr (λi=>i=mb) W w2->MM w2 b n room (aT pg id (some (x,pn))) pin len mb v h L/\Fr (MF b mb v h L) w w2):=λW w2 f1 hm f2=>⟨(HM.out.fr0 f1).put hp ⟨hx,HPN.out⟩ hm f2,(f1.mono (λ_ q=>q.elim)).trans f2 (λi q=>.inl (.inr (.inl q)))⟩
  have KC:Hid (∀W,Fr NoF w W->W.cell? ⟨b,1,none⟩=some (.map (some mb))/\b<W.heap.size):=λW f=>⟨(HM.out.fr0 f).ce 1 (by omega),(HM.out.fr0 f).lc.blk.lt⟩
  generalize heldX (pg id)=X at*;clear H hx h0 hpn hp hY;go_enter func63,ntmps63
  go_wp2_with fail
  refine HH.out.mono ?_;clear HH;rintro e w1⟨rfl,f⟩;have HF:=Hd f;obtain⟨x1,x2⟩:=KC.out w1 f;clear f;go_wp2;obtain⟨w2,hrun,m1,m2⟩:=(HM.out.fr0 ((HF.out.alloc (.cells #[.int .u64 x,.int .i64 pn] 155)).drew)).mp.put_run MVm (by omega) hwf (.agg #[.int .u64 x,.int .i64 pn]);obtain⟨r1,r2⟩:=KM.out _ w2 ((HF.out.alloc (.cells #[.int .u64 x,.int .i64 pn] 155)).drew) m1 m2;have R1:=Hd r1;have R2:=Hd r2;clear m1 m2 r1 r2
  go_region
  all_goals
   go_wp2;go_returns;exact⟨rfl,R1.out,R2.out⟩
 .rw[if_neg h0]
  have g0:(heldE (pg id) !=0)=true:=by simpa using h0
  generalize heldE (pg id)=E at*;generalize heldX (pg id)=X at*;generalize heldY (pg id)=Y at*;clear H h0;go_enter func63,ntmps63
  go_wp2_with fail
  refine HH.out.mono ?_;rintro e w1⟨rfl,f⟩;have HF:=Hd f;clear f;go_wp2;go_returns;have f2:=HF.out.alloc (.cells #[.int .u64 X,.int .i64 Y] 155);exact⟨rfl,HM.out.fr0 f2,f2.mono (λ_ q=>q.elim)⟩
end
section
variable{w w':World}{b n room pin len mb L:Nat}{pg:Nat->Option (Nat×Nat)}{v:Value}{h:Nat->Nat}
theorem EP(n mb room fc:Nat)(v:Value)(pin:Nat)(z:Int)(fc':Nat)(e:z=(fc':Int)):∀i,i<6->upd (mC n mb room fc v pin) (2+1) (.int .i64 z) i=mC n mb room fc' v pin i:=by
 subst e;intro i hi
 match i,hi with
 |0,_|1,_|2,_|3,_|4,_|5,_=>rfl
theorem mW{room:Nat}{pg:Nat->Option (Nat×Nat)}{x:Nat}(p:Nat×Nat):bn room (aT pg (x+1) (some p))=ai (bn room pg) x false:=by
 funext y
 by_cases e:y=x
 .subst e
  rw[aI];unfold bn;rw[eC];simp
 .rw[aq _ _ e];unfold bn;rw[bH _ _ (by omega)]
theorem wW(hT:cJ w){off N bound:Nat}{c:Nat->Value}{S:Nat->Bool}(H:LC w b off N c bound S v h L):Calls prog 90 #[.pointer (some ⟨b,off,none⟩)] w λe w'=>∃z:Int,e=.returned (.int .i64 z)/\w=w':=by
 refine(fH hT H).mono ?_;rintro e w'⟨rfl,q⟩;rcases q with⟨_,_,rfl⟩|⟨x,_,_,rfl⟩
 .exact⟨-1,rfl,rfl⟩
 .exact⟨x,rfl,rfl⟩
theorem o5(hT:cJ w)(H:MM w b n room pg pin len mb v h L)(hf:pin=n):Calls prog 59 #[.pointer (some ⟨b,0,none⟩)] w λe w'=>e=.returned (.agg #[.int .i64 6,.int .u32 0,.int .u64 0])/\Fr NoF w w':=by
 have H1:=H.fr0 ((Fr.refl NoF w).alloc (.cells #[.int .i64 0,.int .u32 0,.int .u64 0] 47));have HFI:=Hd (wW (hT.fr0 ((Fr.refl NoF w).alloc (.cells #[.int .i64 0,.int .u32 0,.int .u64 0] 47))) H1.lc);have c0:w.cell? ⟨b,0,none⟩=some (.int .i64 n):=H.ce 0 (by omega);have c5:w.cell? ⟨b,5,none⟩=some (.int .i64 pin):=H.ce 5 (by omega);rw[hf]at c5;have lb:=H.lc.blk.lt;have gq:((n:Int)==(n:Int))=true:=by simp
 clear H H1 hf hT;go_enter func59,ntmps59
 go_wp2_with fail
 refine HFI.out.mono ?_;rintro e w1⟨z,rfl,rfl⟩;go_wp2
 go_region
 go_wp2
 (try simp only[Exit.inBlock,Exit.then])
 refine bodyPost_ret (af Tryz.results59 _ _ (bt w _ _ _).drew rfl underlying47 rfl (by kernel_rfl)) rfl ?_;exact⟨rfl,((Fr.refl NoF w).alloc _).drew⟩
theorem wS(hT:cJ w)(H:MM w b n room pg pin len mb v h L)(hg:¬MF b mb v h L 0)(hf:¬pin=n){x:Nat}(hx:aJ (bn room pg) x):Calls prog 59 #[.pointer (some ⟨b,0,none⟩)] w λe w'=>e=.returned (.agg #[.int .i64 0,.int .u32 (x+1:Nat),.int .u64 0])/\
  MM w' b n room (aT pg (x+1) (some (0,1))) (pin+1) (len+1) mb v h L/\Fr (MF b mb v h L) w w':=by
 have fA:Fr NoF w (w.alloc (.cells #[.int .i64 0,.int .u32 0,.int .u64 0] 47)):=(Fr.refl NoF w).alloc _;have HFI:Hid (Calls prog 90 #[.pointer (some ⟨b,2,none⟩)] (w.alloc (.cells #[.int .i64 0,.int .u32 0,.int .u64 0] 47)) _):=kB (hT.fr0 fA) (H.fr0 fA).lc hx;have c0:w.cell? ⟨b,0,none⟩=some (.int .i64 n):=H.ce 0 (by omega);have c5:w.cell? ⟨b,5,none⟩=some (.int .i64 pin):=H.ce 5 (by omega);have lb:=H.lc.blk.lt;have hroom:=H.lc.ls.r.hi;have hxr:x<room:=H.lc.ls.dom x hx.1;have hlen:=H.len_le;have hpl:=H.hp;have HM:=Hd H;have hml:=H.mp.lt;have gq:((pin:Int)==(n:Int))=false:=by simp;omega
 have gx:decide ((x:Int)<0)=false:=by simp
 have hpx:pg (x+1)=none:=by
  have:=hx.1;unfold bn at this;simp at this
  cases e:pg (x+1)with
  |none=>rfl
  |some p=>rw[e]at this;simp at this
 have KD:Hid (∀W,Fr NoF w W->Calls prog 91 #[.pointer (some ⟨b,2,none⟩),.int .i64 x] W λe w3=>e=.returned (.tuple #[])/\Fr (λk=>k=b\/LF v h L k) W w3/\LC w3 b 2 6 (mC n mb room (cntB (bn room (aT pg (x+1) (some (0,1)))) room) v pin) room (bn room (aT pg (x+1) (some (0,1)))) v h L):=by
  intro W f;refine(oJ (HM.out.fr0 f).lc hx.1).mono ?_;rintro e w3⟨rfl,q1,q2⟩;have hcnt:=dd (bn room pg) hx.1 room hxr;rw[<-mW (0,1)]at q1 hcnt;exact⟨rfl,q2,q1.congr (EP _ _ _ _ _ _ _ _ (by omega))⟩
 have KP:Hid (∀W w3,Fr NoF w W->Fr (λk=>k=b\/LF v h L k) W w3->MpV prog 42 .u32 fj w3 mb len (pgM pg)/\mb<w3.heap.size):=by
  intro W w3 f1 f2;have hm:=(HM.out.fr0 f1).mp.fr f2 (λq=>by rcases q with q|q;exact HM.out.nb.1 q;exact HM.out.nb.2 q);exact⟨hm,hm.lt⟩
 have KE:Hid (∀W w3 w4,Fr NoF w W->Fr (λk=>k=b\/LF v h L k) W w3->LC w3 b 2 6 (mC n mb room (cntB (bn room (aT pg (x+1) (some (0,1)))) room) v pin) room (bn room (aT pg (x+1) (some (0,1)))) v h L->MpV prog 42 .u32 fj w4 mb (if(pgM pg ((x+1:Nat):Int)).isSome then len else len+1) (dJ (pgM pg) ((x+1:Nat):Int) (some (.agg #[.int .u64 0,.int .i64 1])))->Fr (λi=>i=mb) w3 w4->
   b<w4.heap.size/\w4.cell? ⟨b,5,none⟩=some (.int .i64 pin)/\w4.frozen? ⟨b,5,none⟩=false/\Hid (MM (w4.setCell ⟨b,5,none⟩ (.int .i64 ((pin:Int)+1))) b n room (aT pg (x+1) (some (0,1))) (pin+1) (len+1) mb v h L/\Fr (MF b mb v h L) w (w4.setCell ⟨b,5,none⟩ (.int .i64 ((pin:Int)+1))))):=by
  intro W w3 w4 f1 f2 hl hm f3;have e:(pgM pg ((x+1:Nat):Int)).isSome=false:=by rw[oU,hpx];rfl
  rw[e,show some (Value.agg #[.int .u64 0,.int .i64 1])=(some (0,1)).map ew from rfl,vl]at hm;have hm':MpV prog 42 .u32 fj w4 mb (len+1) (pgM (aT pg (x+1) (some (0,1)))):=hm;have hl4:=hl.fr f3 (λq=>HM.out.nb.1 q.symm) (λk q e=>HM.out.nb.2 (e▸q));have hcnt:=dd (bn room pg) hx.1 room hxr;rw[<-mW (0,1)]at hcnt
  have hmm:MM w4 b n room (aT pg (x+1) (some (0,1))) pin (len+1) mb v h L:=⟨hl4,hm',λy q hy=>by
   by_cases e:y=x+1
   .omega
   .rw[bH _ _ e]at hy;exact HM.out.dom y q hy,by have:=HM.out.num;omega,HM.out.nb,λy q hy=>by
   by_cases e:y=x+1
   .subst e;rw[eC]at hy;cases hy;exact⟨by show 0<_;decide,by show 1<1000000;omega⟩
   .rw[bH _ _ e]at hy;exact HM.out.ok y q hy,HM.out.hn,by omega⟩
  obtain⟨g1,g2⟩:=hmm.setPin (pin':=pin+1) (by omega);refine⟨hmm.lc.blk.lt,hmm.ce 5 (by omega),hmm.lc.blk.frozen 5,g1,?_⟩;refine(((f1.mono (λ_ q=>q.elim)).trans f2 (λi q=>.inl ?_)).trans f3 (λi q=>.inl (.inr (.inl q)))).trans g2 (λi q=>.inl (.inl q));rcases q with q|q
  .exact .inl q
  .exact .inr (.inr q)
 have hcw:IntKind.i64.wrap ((pin:Int)+1)=(pin:Int)+1:=IntWalk.i64_in _ (by omega);have hcx:IntKind.i64.wrap ((x:Int)+1)=((x+1:Nat):Int):=by rw[IntWalk.i64_in _ (by omega)];rfl
 have hcu:IntKind.u32.wrap ((x+1:Nat):Int)=((x+1:Nat):Int):=IntWalk.u32_in _ (by omega);have hwf:(Lit.int .u32 ((x+1:Nat):Int)).wf=true:=WalkArith.wf_u32 ⟨by omega,by omega⟩;have HB0:=Hd (bt w (.int .i64 0) (.int .u32 0) (.int .u64 0) (t:=47));have KM1:Hid (∀W w3,Fr NoF w W->LC w3 b 2 6 (mC n mb room (cntB (bn room (aT pg (x+1) (some (0,1)))) room) v pin) room (bn room (aT pg (x+1) (some (0,1)))) v h L->w3.cell? ⟨b,1,none⟩=some (.map (some mb))/\b<w3.heap.size):=λW w3 f hl=>⟨hl.blk.cell (i:=1) (by omega),hl.blk.lt⟩
 have HNB:Hid (∀k,MF b mb v h L k->k<w.heap.size):=H.lt;have FA:Hid (Fr NoF w ((w.alloc (.cells #[.int .i64 0,.int .u32 0,.int .u64 0] 47)).drew)):=fA.drew;clear H hx hf hT hg fA hpx;go_enter func59,ntmps59
 go_wp2_with fail
 refine HFI.out.mono ?_;rintro e w1⟨rfl,rfl⟩;go_wp2
 go_region
 go_wp2_with fail
 refine(KD.out _ FA.out).mono ?_;rintro e w3⟨rfl,d1,d2⟩;obtain⟨z1,z2⟩:=KM1.out _ w3 FA.out d2;obtain⟨z3,z4⟩:=KP.out _ w3 FA.out d1;have D1:=Hd d1;have D2:=Hd d2;have Z3:=Hd z3;have RB:=HB0.out.drew.fr d1 (λq=>by rcases q with q|q;exact absurd (HNB.out _ (.inl q)) (by omega);exact absurd (HNB.out _ (.inr (.inr q))) (by omega));have HRB:=Hd RB;clear d1 d2 z3 RB
 go_wp2_with(at_mapUpdate;go_must(refine CA MVm Z3.out (by omega) rfl _ _ _ rfl (by rfl) (by rfl) (by rfl) hwf ?_);intro w4 m1 m2;obtain⟨y1,y2,y3,KF⟩:=KE.out _ _ w4 FA.out D1.out D2.out m1 m2;have RB4:=HRB.out.fr m2 (λq=>absurd (HNB.out _ (.inr (.inl q))) (by omega));have HRB4:=Hd RB4;have t0:w4.cell? ⟨w.heap.size,0,none⟩=some (.int .i64 0):=RB4.cell (i:=0) (by omega);have t1:w4.cell? ⟨w.heap.size,1,none⟩=some (.int .u32 0):=RB4.cell (i:=1) (by omega);have t2:w4.cell? ⟨w.heap.size,2,none⟩=some (.int .u64 0):=RB4.cell (i:=2) (by omega);have g0:=RB4.frozen 0;have g1:=RB4.frozen 1;have g2:=RB4.frozen 2;have lr:=RB4.lt;clear m1 m2 RB4)
 obtain⟨k1,k2⟩:=KF.out;have hbn:¬w.heap.size=b:=λe=>absurd (HNB.out b (.inl rfl)) (by omega)
 have RB5:=HRB4.out.other (a:=⟨b,5,none⟩) hbn (.int .i64 ((pin:Int)+1));have RS:=((RB5.set 0 (.int .i64 0)).set 1 (.int .u32 ((x:Int)+1))).set 2 (.int .u64 0);have FS:=((((Fr.refl (λi=>i=w.heap.size) (w4.setCell ⟨b,5,none⟩ (.int .i64 ((pin:Int)+1)))).setCell (p:=⟨w.heap.size,0,none⟩) (.inl rfl) (.int .i64 0)).setCell (p:=⟨w.heap.size,1,none⟩) (.inl rfl) (.int .u32 ((x:Int)+1))).setCell (p:=⟨w.heap.size,2,none⟩) (.inl rfl) (.int .u64 0))
 (try simp only[Exit.inBlock,Exit.then])
 refine bodyPost_ret (af Tryz.results59 _ _ RS rfl underlying47 rfl (by kernel_rfl)) rfl ?_;exact⟨rfl,k1.fr FS (λk q e=>absurd (HNB.out k q) (by omega)),k2.trans FS (λi q=>.inr (by omega))⟩
end
section
variable{w:World}{b:Nat}{Q:World->Prop}{G:Nat->Prop}
theorem bb(w:World)(y1 y2 y3 u1 u2 u3:Value){t t':TypeId}:Blk ((w.alloc (.cells #[y1,y2,y3] t')).alloc (.cells #[u1,u2,u3] t)) (w.heap.size+1) 3 (λi=>if i=0 then u1 else if i=1 then u2 else u3):=
 Blk.new _ _ _ _ _ _ (by simp) rfl (λi hi=>by
  match i,hi with
  |0,_=>rfl
  |1,_=>rfl
  |2,_=>rfl)
theorem Fw{E I V:Int}{id x:Int}(hG:∀i,G i->i<w.heap.size)(hQ:∀a c,Q a->Fr (λi=>w.heap.size<=i) a c->Q c)(hin:∀W,Fr NoF w W->Calls prog 59 #[.pointer (some ⟨b,0,none⟩)] W λe w'=>e=.returned (.agg #[.int .i64 E,.int .u32 I,.int .u64 V])/\Q w'/\Fr G W w'):
  Calls prog 31 #[.pointer (some ⟨b,0,none⟩),.agg #[.int .i64 0,.int .u32 id,.int .u64 x]] w λe w'=>e=.returned (.agg #[.int .i64 E,.int .u32 I,.int .u64 V])/\Q w'/\Fr G w w':=by
 have fA:Fr NoF w ((w.alloc (.cells #[.int .i64 0,.int .u32 id,.int .u64 x] 50)).alloc (.cells #[.int .i64 0,.int .u32 0,.int .u64 0] 47)):=((Fr.refl NoF w).alloc _).alloc _;have HIN:=Hd (hin _ fA);have HFA:=Hd fA;have HG:=Hd hG;have HQ:=Hd hQ;clear hin fA hG hQ;go_enter func31,ntmps31
 go_wp2_with fail
 refine HIN.out.mono ?_;rintro e w1⟨rfl,q1,q2⟩;have RB:=(bb w (.int .i64 0) (.int .u32 id) (.int .u64 x) (.int .i64 0) (.int .u32 0) (.int .u64 0) (t:=47) (t':=50)).fr q2 (λq=>absurd (HG.out _ q) (by omega));have HRB:=Hd RB;have HQ1:=Hd q1;have HF:Hid (Fr G w w1):=(HFA.out.mono (λ_ q=>q.elim)).trans q2 (λi q=>.inl q);have t0:w1.cell? ⟨w.heap.size+1,0,none⟩=some (.int .i64 0):=RB.cell (i:=0) (by omega);have t1:w1.cell? ⟨w.heap.size+1,1,none⟩=some (.int .u32 0):=RB.cell (i:=1) (by omega);have t2:w1.cell? ⟨w.heap.size+1,2,none⟩=some (.int .u64 0):=RB.cell (i:=2) (by omega);have g0:=RB.frozen 0;have g1:=RB.frozen 1;have g2:=RB.frozen 2;have lr:=RB.lt;clear RB q1 q2 HIN;go_wp2;have RS:=((HRB.out.set 0 (.int .i64 E)).set 1 (.int .u32 I)).set 2 (.int .u64 V);have FS:=(((Fr.refl (λi=>i=w.heap.size+1) w1).setCell (p:=⟨w.heap.size+1,0,none⟩) (.inl rfl) (.int .i64 E)).setCell (p:=⟨w.heap.size+1,1,none⟩) (.inl rfl) (.int .u32 I)).setCell (p:=⟨w.heap.size+1,2,none⟩) (.inl rfl) (.int .u64 V)
 (try simp only[Exit.inBlock,Exit.then])
 refine bodyPost_ret (af Tryz.results31 _ _ RS rfl underlying47 rfl (by kernel_rfl)) rfl ?_;exact⟨rfl,HQ.out _ _ HQ1.out (FS.mono (λi q=>by omega)),HF.out.trans FS (λi q=>.inr (by omega))⟩
theorem Gg{E:Int}{id x:Int}(hG:∀i,G i->i<w.heap.size)(hQ:∀a c,Q a->Fr (λi=>w.heap.size<=i) a c->Q c)(hin:∀W,Fr NoF w W->Calls prog 63 #[.pointer (some ⟨b,0,none⟩),.int .u32 id,.int .u64 x] W λe w'=>e=.returned (.int .i64 E)/\Q w'/\Fr G W w'):
  Calls prog 31 #[.pointer (some ⟨b,0,none⟩),.agg #[.int .i64 4,.int .u32 id,.int .u64 x]] w λe w'=>e=.returned (.agg #[.int .i64 E,.int .u32 0,.int .u64 0])/\Q w'/\Fr G w w':=by
 have fA:Fr NoF w ((w.alloc (.cells #[.int .i64 4,.int .u32 id,.int .u64 x] 50)).alloc (.cells #[.int .i64 0,.int .u32 0,.int .u64 0] 47)):=((Fr.refl NoF w).alloc _).alloc _;have HIN:=Hd (hin _ fA);have HFA:=Hd fA;have HG:=Hd hG;have HQ:=Hd hQ;clear hin fA hG hQ;go_enter func31,ntmps31
 go_wp2_with fail
 refine HIN.out.mono ?_;rintro e w1⟨rfl,q1,q2⟩;have RB:=(bb w (.int .i64 4) (.int .u32 id) (.int .u64 x) (.int .i64 0) (.int .u32 0) (.int .u64 0) (t:=47) (t':=50)).fr q2 (λq=>absurd (HG.out _ q) (by omega));have HRB:=Hd RB;have HQ1:=Hd q1;have HF:Hid (Fr G w w1):=(HFA.out.mono (λ_ q=>q.elim)).trans q2 (λi q=>.inl q);have t0:w1.cell? ⟨w.heap.size+1,0,none⟩=some (.int .i64 0):=RB.cell (i:=0) (by omega);have t1:w1.cell? ⟨w.heap.size+1,1,none⟩=some (.int .u32 0):=RB.cell (i:=1) (by omega);have t2:w1.cell? ⟨w.heap.size+1,2,none⟩=some (.int .u64 0):=RB.cell (i:=2) (by omega);have g0:=RB.frozen 0;have g1:=RB.frozen 1;have g2:=RB.frozen 2;have lr:=RB.lt;clear RB q1 q2 HIN;go_wp2;have RS:=((HRB.out.set 0 (.int .i64 E)).set 1 (.int .u32 0)).set 2 (.int .u64 0);have FS:=(((Fr.refl (λi=>i=w.heap.size+1) w1).setCell (p:=⟨w.heap.size+1,0,none⟩) (.inl rfl) (.int .i64 E)).setCell (p:=⟨w.heap.size+1,1,none⟩) (.inl rfl) (.int .u32 0)).setCell (p:=⟨w.heap.size+1,2,none⟩) (.inl rfl) (.int .u64 0)
 (try simp only[Exit.inBlock,Exit.then])
 refine bodyPost_ret (af Tryz.results31 _ _ RS rfl underlying47 rfl (by kernel_rfl)) rfl ?_;exact⟨rfl,HQ.out _ _ HQ1.out (FS.mono (λi q=>by omega)),HF.out.trans FS (λi q=>.inr (by omega))⟩
end
end
end Go.Proofs.YtkjhnllcphidpaaGreatDoor
