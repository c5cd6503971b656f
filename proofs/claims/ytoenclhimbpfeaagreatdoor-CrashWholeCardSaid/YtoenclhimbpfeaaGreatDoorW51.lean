/- Part 51. -/
import Derived.Test.YtoenclhimbpfeaaGreatDoorW50
namespace Go.Proofs.YtoenclhimbpfeaaGreatDoor
set_option linter.all false
set_option maxHeartbeats 16000000
set_option maxRecDepth 100000
section
open Go.Proofs.Tryz Go.RowKit
structure Pg where
 id:Nat
 v:Nat
 pins:Nat
instance:Inhabited Pg:=⟨⟨0,0,0⟩⟩
def DK(p:Pg):List Value:=[.int .u32 (p.id:Nat),.int .u64 (p.v:Nat),.int .i64 (p.pins:Nat)]
def gC(l:List Pg):List Value:=l.flatMap DK
theorem gW(l:List Pg):(gC l).length=l.length*3:=by
 induction l with
 |nil=>rfl
 |cons a l ih=>simp only[gC,List.flatMap_cons,List.length_append,List.length_cons,DK,List.length_nil];unfold gC at ih;omega
theorem kF(a b:List Pg):gC (a++b)=gC a++gC b:=by unfold gC;rw[List.flatMap_append]
theorem zH:∀(l:List Pg) {i:Nat} (h:i<l.length),(gC l)[i*3]?=some (.int .u32 (l[i].id:Nat))/\(gC l)[i*3+1]?=some (.int .u64 (l[i].v:Nat))/\(gC l)[i*3+2]?=some (.int .i64 (l[i].pins:Nat))
 |[],i,h=>by simp at h
 |a::l,0,h=>by simp[gC,DK]
 |a::l,i+1,h=>by
  have ih:=zH l (i:=i) (by simpa using h);have e:gC (a::l)=[.int .u32 (a.id:Nat),.int .u64 (a.v:Nat),.int .i64 (a.pins:Nat)]++gC l:=rfl;have h0:∀j,([Value.int .u32 (a.id:Nat),.int .u64 (a.v:Nat),.int .i64 (a.pins:Nat)]++gC l)[j+3]?=(gC l)[j]?:=λj=>by simp
  rw[e,show(i+1)*3=i*3+3 from by omega,h0,show i*3+3+1=(i*3+1)+3 from by omega,h0,show i*3+3+2=(i*3+2)+3 from by omega,h0];exact ih
theorem df(l:List Pg):∀u∈gC l,u.oneCell'=true:=by
 intro u hu;obtain⟨p,_,h⟩:=List.mem_flatMap.1 hu;simp[DK]at h;rcases h with rfl|rfl|rfl<;>rfl
theorem DI(l:List Pg)(k:Nat):(gC l).take (k*3)=gC (l.take k):=by
 rcases Nat.le_total k l.length with h|h
 .have e:gC l=gC (l.take k)++gC (l.drop k):=by rw[<-kF,List.take_append_drop]
  rw[e,List.take_left' (by rw[gW,List.length_take];omega)]
 .rw[List.take_of_length_le (by rw[gW];omega),List.take_of_length_le h]
theorem DF(l:List Pg)(k:Nat):(gC l).drop (k*3)=gC (l.drop k):=by
 rcases Nat.le_total k l.length with h|h
 .have e:gC l=gC (l.take k)++gC (l.drop k):=by rw[<-kF,List.take_append_drop]
  rw[e,List.drop_left' (by rw[gW,List.length_take];omega)]
 .rw[List.drop_of_length_le (by rw[gW];omega),List.drop_of_length_le h];rfl
def gF(l:List Pg)(i:Nat):Value:=((gC l)[i]?).getD (.bool false)
theorem tV(l:List Pg):(List.range (l.length*3)).map (gF l)=gC l:=by
 apply List.ext_getElem?;intro j;by_cases h:j<l.length*3
 .have h2:j<(gC l).length:=by rw[gW];exact h
  simp[gF,h,h2]
 .rw[List.getElem?_eq_none (by simp;omega),List.getElem?_eq_none (by rw[gW];omega)]
theorem Bm(l:List Pg){k:Nat}(h:k<l.length):gF l (k*3)=.int .u32 (l[k].id:Nat)/\gF l (k*3+1)=.int .u64 (l[k].v:Nat)/\gF l (k*3+2)=.int .i64 (l[k].pins:Nat):=by
 obtain⟨h1,h2,h3⟩:=zH l h;unfold gF;rw[h1,h2,h3];exact⟨rfl,rfl,rfl⟩
theorem Ep(l:List Pg){k:Nat}(h:k<l.length)(p:Pg)(hid:p.id=l[k].id){c:Nat}(hc:c=1/\p.pins=l[k].pins\/c=2/\p.v=l[k].v):
  ∀i,i<l.length*3->upd (gF l) (k*3+c) (if c=1 then .int .u64 (p.v:Nat)else .int .i64 (p.pins:Nat)) i=gF (l.set k p) i:=by
 intro i hi;have hl:(l.set k p).length=l.length:=List.length_set;have hm:i/3<l.length:=by omega
 obtain⟨a1,a2,a3⟩:=Bm l hm;obtain⟨b1,b2,b3⟩:=Bm (l.set k p) (k:=i/3) (by omega);have hr:i%3=0\/i%3=1\/i%3=2:=by omega
 by_cases ek:k=i/3
 .subst ek
  simp only[List.getElem_set_self]at b1 b2 b3;rcases hr with q|q|q
  .have ei:i=i/3*3:=by omega
   have hne:¬i=i/3*3+c:=by omega
   rw[aa _ _ hne];rw[<-ei]at a1 b1;rw[a1,b1,hid]
  .have ei:i=i/3*3+1:=by omega
   rw[<-ei]at a2 b2;rcases hc with⟨rfl,h2⟩|⟨rfl,h2⟩
   .rw[<-ei,upd_same,b2];rfl
   .rw[aa _ _ (by omega),a2,b2,h2]
  .have ei:i=i/3*3+2:=by omega
   rw[<-ei]at a3 b3;rcases hc with⟨rfl,h2⟩|⟨rfl,h2⟩
   .rw[aa _ _ (by omega),a3,b3,h2]
   .rw[<-ei,upd_same,b3];rfl
 .have hc3:c<=2:=by omega
  rw[aa _ _ (by omega)];simp only[List.getElem_set_ne ek]at b1 b2 b3;rcases hr with q|q|q
  .have ei:i=i/3*3:=by omega
   rw[<-ei]at a1 b1;rw[a1,b1]
  .have ei:i=i/3*3+1:=by omega
   rw[<-ei]at a2 b2;rw[a2,b2]
  .have ei:i=i/3*3+2:=by omega
   rw[<-ei]at a3 b3;rw[a3,b3]
def atG(l:List Pg)(id:Nat):Option Nat:=l.findIdx? (λp=>p.id==id)
def eF:Option Nat->Int
 |none=> -1
 |some k=>k
theorem yF{l:List Pg}{id:Nat}(h:∀k (hk:k<l.length),¬l[k].id=id):atG l id=none:=by
 unfold atG;rw[List.findIdx?_eq_none_iff];intro p hp;obtain⟨k,hk,rfl⟩:=List.mem_iff_getElem.1 hp;simpa using h k hk
theorem Ad{l:List Pg}{id k:Nat}(hk:k<l.length)(h:l[k].id=id)(hn:∀j (hj:j<k),¬(l[j]'(by omega)).id=id):atG l id=some k:=by
 unfold atG;rw[List.findIdx?_eq_some_iff_getElem];exact⟨hk,by simpa using h,λj hj=>by simpa using hn j hj⟩
theorem Es{l:List Pg}{id k:Nat}(h:atG l id=some k):∃hk:k<l.length,l[k].id=id:=by
 unfold atG at h;rw[List.findIdx?_eq_some_iff_getElem]at h;obtain⟨hk,h1,_⟩:=h;exact⟨hk,by simpa using h1⟩
def pinL(l:List Pg):Nat:=l.countP (λp=>decide (0<p.pins))
theorem j4(l:List Pg):pinL l<=l.length:=List.countP_le_length
theorem xx(l:List Pg){k:Nat}(h:k<l.length):pinL (l.take (k+1))=pinL (l.take k)+(if 0<l[k].pins then 1 else 0):=by
 rw[List.take_succ_eq_append_getElem h];unfold pinL;rw[List.countP_append];by_cases q:0<l[k].pins<;>simp[q]
theorem EIG:EI prog 41 56 3 24:=EI.mk' (z:=.agg #[.int .u32 0,.int .u64 0,.int .i64 0]) underlying41 (by kernel_rfl) rfl (by decide)
def rgC(n room:Nat)(lv:Value):Nat->Value
 |0=>.int .i64 n
 |1=>.int .i64 room
 |_=>lv
structure RG(w:World)(r n room:Nat)(l:List Pg)(lv:Value):Prop where
 hd:Blk w r 3 (rgC n room lv)
 hl:SlF w 56 3 lv l.length (gF l)
 nb:∀i,lv.ownBlock=some i->¬i=r
 b1:l.length<=65535/\n<=65535/\room<=65535
 ok:∀p∈l,xM p.id/\okV p.v/\p.pins<1000000
def GFr(r:Nat)(lv:Value):Nat->Prop:=λi=>i=r\/lv.ownBlock=some i
section
variable{w w':World}{r n room:Nat}{l:List Pg}{lv:Value}
theorem RG.fr(h:RG w r n room l lv){G:Nat->Prop}(f:Fr G w w')(hG:∀i,GFr r lv i->¬G i):RG w' r n room l lv:=
 ⟨h.hd.fr f (hG r (.inl rfl)),h.hl.fr f (λb q=>hG b (.inr q)),h.nb,h.b1,h.ok⟩
theorem RG.fr0(h:RG w r n room l lv)(f:Fr NoF w w'):RG w' r n room l lv:=h.fr f (λ_ _ q=>q)
theorem RG.lt(h:RG w r n room l lv):∀i,GFr r lv i->i<w.heap.size:=by
 rintro i(rfl|q)
 .exact h.hd.lt
 .exact h.hl.lt i q
theorem RG.c2(h:RG w r n room l lv):w.cell? ⟨r,2,none⟩=some lv:=h.hd.cell (i:=2) (by omega)
theorem RG.c0(h:RG w r n room l lv):w.cell? ⟨r,0,none⟩=some (.int .i64 n):=h.hd.cell (i:=0) (by omega)
theorem RG.c1(h:RG w r n room l lv):w.cell? ⟨r,1,none⟩=some (.int .i64 room):=h.hd.cell (i:=1) (by omega)
theorem RG.at(h:RG w r n room l lv){k:Nat}(hk:k<l.length):∃g cap,lv=.slice (some ⟨g,0,none⟩) l.length cap/\l.length<=cap/\cap<=9223372036854775807/\g<w.heap.size/\
  w.cell? ⟨g,k*3,none⟩=some (.int .u32 (l[k].id:Nat))/\w.cell? ⟨g,k*3+1,none⟩=some (.int .u64 (l[k].v:Nat))/\w.cell? ⟨g,k*3+2,none⟩=some (.int .i64 (l[k].pins:Nat))/\(∀i,w.frozen? ⟨g,i,none⟩=false):=by
 obtain⟨g,cap,e,h1,h2,h3,h4,h5⟩:=h.hl.at (by omega);obtain⟨a1,a2,a3⟩:=Bm l hk;unfold maxLen at h2;exact⟨g,cap,e,h1,by omega,h3,by rw[h5 _ (by omega),a1],by rw[h5 _ (by omega),a2],by rw[h5 _ (by omega),a3],h4⟩
theorem aC(h:RG w r n room l lv)(id:Nat):Calls prog 23 #[.pointer (some ⟨r,0,none⟩),.int .u32 id] w λe w'=>e=.returned (.int .i64 (eF (atG l id)))/\w=w':=by
 have c2:=h.c2;have lr:=h.hd.lt;obtain⟨a,c,rfl,q1,q2⟩:=h.hl.shape;unfold maxLen at q2;have HS:=Hd h;have hll:l.length<=65535:=h.b1.1;clear h;go_enter func23,ntmps23;go_wp2
 go_loopw [5] (λi wr=>∃k:Nat,k<=l.length/\i=.int .i64 k/\wr=w/\Hid (∀j (hj:j<l.length),j<k->¬l[j].id=id)) (λi _=>l.length-(intOf i).toNat)
 case atStart=>exact⟨0,Nat.zero_le _,rfl,rfl,λj _ hj=>(by omega)⟩
 case round=>
  obtain⟨k,hk,rfl,rfl,HN⟩:=hrel;by_cases hlt:k<l.length
  .obtain⟨g,cap,ev,_,_,hb,cy,_,_,_⟩:=HS.out.at hlt
   simp only[Value.slice.injEq]at ev;obtain⟨rfl,_,rfl⟩:=ev;by_cases he:l[k].id=id
   .have HA:Hid (atG l id=some k):=Ad hlt he (λj hj=>HN.out j (by omega) hj)
    rw[he]at cy;clear he HN;go_wp2;go_returns;exact⟨by rw[HA.out];rfl,rfl⟩
   .have HE:=Hd he
    have hne:¬((l[k].id:Nat):Int)=(id:Int):=λq=>he (by omega)
    clear he;generalize hy:l[k].id=y at cy hne;have HY:=Hd hy;have hbq:((y:Int)==(id:Int))=false:=by simpa using hne
    clear hy;go_wp2
    go_roundw
    case rel=>
     refine⟨k+1,by omega,by go_num,by first|rfl|trivial,λj hj hjk=>?_⟩;by_cases e:j=k
     .subst e;exact HE.out
     .exact HN.out j hj (by omega)
    case measure=>simp[intOf]<;>omega
  .obtain rfl:k=l.length:=by omega
   have HA:Hid (atG l id=none):=yF (λj hj=>HN.out j hj hj);clear HN;go_wp2;go_returns;exact⟨by rw[HA.out];rfl,rfl⟩
theorem bM(h:RG w r n room l lv):Calls prog 24 #[.pointer (some ⟨r,0,none⟩)] w λe w'=>e=.returned (.bool (decide (n<=pinL l)))/\w=w':=by
 have c2:=h.c2;have c0:=h.c0;have lr:=h.hd.lt;obtain⟨a,c,rfl,q1,q2⟩:=h.hl.shape;unfold maxLen at q2;have HS:=Hd h;have hll:l.length<=65535:=h.b1.1;have hpl:=j4 l;clear h;go_enter func24,ntmps24;go_wp2
 go_loopw [3,4] (λc i wr=>∃k:Nat,k<=l.length/\i=.int .i64 k/\wr=w/\c=.int .i64 (pinL (l.take k):Nat)) (λ_ i _=>l.length-(intOf i).toNat)
 case atStart=>exact⟨0,Nat.zero_le _,rfl,rfl,rfl⟩
 case round=>
  obtain⟨k,hk,rfl,rfl,rfl⟩:=hrel;by_cases hlt:k<l.length
  .obtain⟨g,cap,ev,_,_,hb,_,_,cy,_⟩:=HS.out.at hlt
   simp only[Value.slice.injEq]at ev;obtain⟨rfl,_,rfl⟩:=ev;have HP:=Hd (xx l hlt);have hpk:=Nat.le_trans (j4 (l.take k)) (List.length_take_le k l);by_cases he:0<l[k].pins
   .have HE:=Hd he
    generalize l[k].pins=y at cy he HP HE;generalize pinL (l.take k)=z at*;have hcw:IntKind.i64.wrap ((z:Int)+1)=(z:Int)+1:=IntWalk.i64_in _ (by omega);have hg:decide (0<(y:Int))=true:=by simp;omega
    clear he;go_wp2
    go_roundw
    case rel=>exact⟨k+1,by omega,by go_num,by first|rfl|trivial,by rw[HP.out,if_pos HE.out];go_num⟩
    case measure=>simp[intOf]<;>omega
   .have HE:=Hd he
    generalize l[k].pins=y at cy he HP HE;generalize pinL (l.take k)=z at*;have hg:decide (0<(y:Int))=false:=by simp;omega
    clear he;go_wp2
    go_roundw
    case rel=>exact⟨k+1,by omega,by go_num,by first|rfl|trivial,by rw[HP.out,if_neg HE.out];rfl⟩
    case measure=>simp[intOf]<;>omega
  .obtain rfl:k=l.length:=by omega
   rw[List.take_length];go_wp2;go_returns;exact⟨by simp,rfl⟩
end
end
section
open Go.Maps Go.RowKit
section
variable{w:World}{b:Nat}{Q:World->Prop}{G:Nat->Prop}
theorem dZ(w:World)(y1 y2 y3 u1 u2 u3:Value){t t':TypeId}:Blk ((w.alloc (.cells #[y1,y2,y3] t')).alloc (.cells #[u1,u2,u3] t)) (w.heap.size+1) 3 (λi=>if i=0 then u1 else if i=1 then u2 else u3):=
 Blk.new _ _ _ _ _ _ (by simp) rfl (λi hi=>by
  match i,hi with
  |0,_=>rfl
  |1,_=>rfl
  |2,_=>rfl)
end
end
section
open Go.Proofs.Tryz Go.RowKit
def insG(l:List Pg)(k:Nat):List Pg:=l.take k++[⟨k+1,0,1⟩]++l.drop k
structure gU(l:List Pg)(k:Nat):Prop where
 le:k<=l.length
 all:∀j (hj:j<l.length),j<k->l[j].id=j+1
 not:∀hk:k<l.length,¬l[k].id=k+1
section
variable{w w0 w':World}{r n room:Nat}{l:List Pg}{lv v:Value}
theorem ww{v:Value}{w:World}{l:List Pg}{base n:Nat}(hn:n=l.length)(h:w.ownsRow base 56 3 v n (gC l)):SlF w 56 3 v l.length (gF l):=by
 subst hn;unfold SlF;rw[tV];obtain⟨o1,o2⟩:=h;refine⟨o1,o2.imp _root_.id ?_⟩;rintro⟨g,cap,cur,e1,hg,r⟩;exact⟨g,cap,cur,e1,Nat.zero_le _,r⟩
theorem RG.slc(h:RG w r n room l lv):SlC w 3 lv l.length (gC l):=by
 have h1:w.ownsRow 0 56 3 lv l.length (gC l):=by have:=h.hl;unfold SlF at this;rw[tV]at this;exact this
 exact SlC.ofOwn h1 (df l)
theorem mT{g off c:Nat}{l:List Pg}(h:SlC w 3 (.slice (some ⟨g,off,none⟩) l.length c) l.length (gC l)){k:Nat}(hk:k<=l.length)(hc:0<c):SlC w 3 (.slice (some ⟨g,off,none⟩) k c) k (gC (l.take k)):=by
 obtain⟨b',o',e,h1⟩:=SlC.cut (lo:=0) (hi:=k) h (by omega) hk rfl hc;simp only[Option.some.injEq,Addr.mk.injEq]at e;obtain⟨rfl,rfl,_⟩:=e;simp only[Nat.zero_mul,Nat.add_zero,Nat.sub_zero,List.drop_zero]at h1;rw[DI]at h1;exact h1
theorem qI{g off c:Nat}{l:List Pg}(h:SlC w 3 (.slice (some ⟨g,off,none⟩) l.length c) l.length (gC l)){k:Nat}(hk:k<=l.length)(hc:k<c):SlC w 3 (.slice (some ⟨g,off+k*3,none⟩) (l.length-k) (c-k)) (l.length-k) (gC (l.drop k)):=by
 obtain⟨b',o',e,h1⟩:=SlC.cut (lo:=k) (hi:=l.length) h hk (Nat.le_refl _) rfl hc;simp only[Option.some.injEq,Addr.mk.injEq]at e;obtain⟨rfl,rfl,_⟩:=e;rw[DF,List.take_of_length_le (by rw[gW,List.length_drop];omega)]at h1;exact h1
theorem RG.setL(h:RG w r n room l lv){l':List Pg}{v6:Value}{w6:World}{m:Nat}(hm:m=l'.length)(ho:w6.ownsRow w.heap.size 56 3 v6 m (gC l'))(f:Fr NoF w w6)(hl:l'.length<=65535)(hok:∀p∈l',xM p.id/\okV p.v/\p.pins<1000000):
  RG (w6.setCell ⟨r,2,none⟩ v6) r n room l' v6/\Fr (λi=>i=r) w (w6.setCell ⟨r,2,none⟩ v6):=by
 have hob:=aj ho;have hlt:=h.hd.lt;have hs:=ww hm ho;have h6:=h.fr0 f;have f6:Fr (λi=>i=r) w6 (w6.setCell ⟨r,2,none⟩ v6):=(Fr.refl (λi=>i=r) w6).setCell (p:=⟨r,2,none⟩) (.inl rfl) _;refine⟨⟨(h6.hd.set 2 v6).congr (λi hi=>?_),hs.fr f6 (λb q e=>by have:=hob b q;omega),λi q=>by have:=hob i q;omega,⟨hl,h.b1.2⟩,hok⟩,(f.mono (λ_ q=>q.elim)).trans f6 (λi q=>.inl q)⟩
 match i,hi with
 |0,_=>rfl
 |1,_=>rfl
 |2,_=>rfl
theorem lA(l:List Pg){k:Nat}(hk:k<=l.length):(insG l k).length=l.length+1:=by unfold insG;simp;omega
theorem CP{l:List Pg}{k:Nat}(h:∀p∈l,xM p.id/\okV p.v/\p.pins<1000000)(hk:k<=65535):∀p∈insG l k,xM p.id/\okV p.v/\p.pins<1000000:=by
 intro p hp;unfold insG at hp;rcases List.mem_append.1 hp with q|q
 .rcases List.mem_append.1 q with q|q
  .exact h p (List.mem_of_mem_take q)
  .simp at q;subst q;exact⟨by unfold xM;show k+1<_;omega,by unfold okV;show 0<_;omega,by show 1<1000000;omega⟩
 .exact h p (List.mem_of_mem_drop q)
theorem RG.ins(h:RG w r n room l lv){k:Nat}(hk:k<=l.length)(hb2:l.length+1<=65535){v6:Value}{w6:World}(ho:w6.ownsRow w.heap.size 56 3 v6 (k+1+(l.length-k)) ((gC (l.take k)++[.int .u32 ((k:Int)+1),.int .u64 0,.int .i64 1])++gC (l.drop k)))(f:Fr NoF w w6):
  RG (w6.setCell ⟨r,2,none⟩ v6) r n room (insG l k) v6/\Fr (λi=>i=r) w (w6.setCell ⟨r,2,none⟩ v6):=by
 have e:((gC (l.take k)++[.int .u32 ((k:Int)+1),.int .u64 0,.int .i64 1])++gC (l.drop k))=gC (insG l k):=by unfold insG;rw[kF,kF];rfl
 rw[e]at ho;exact h.setL (by rw[lA l hk];omega) ho f (by rw[lA l hk];omega) (CP h.ok (by omega))
theorem mB(h:RG w r n room l lv)(hf:n<=pinL l):Calls prog 22 #[.pointer (some ⟨r,0,none⟩)] w λe w'=>e=.returned (.agg #[.int .i64 6,.int .u32 0,.int .u64 0])/\Fr NoF w w':=by
 have HFU:=Hd (bM (h.fr0 ((Fr.refl NoF w).alloc (.cells #[.int .i64 0,.int .u32 0,.int .u64 0] 45))));rw[show decide (n<=pinL l)=true from by simpa using hf]at HFU;clear h hf;go_enter func22,ntmps22
 go_wp2_with fail
 refine HFU.out.mono ?_;rintro e w1⟨rfl,rfl⟩;go_wp2
 (try simp only[Exit.inBlock,Exit.then])
 refine bodyPost_ret (af Tryz.results22 _ _ (dN w _ _ _) rfl underlying45 rfl (by kernel_rfl)) rfl ?_;exact⟨rfl,(Fr.refl NoF w).alloc _⟩
theorem tq(h:RG w r n room l lv)(hf:¬n<=pinL l)(hr:room<=l.length):Calls prog 22 #[.pointer (some ⟨r,0,none⟩)] w λe w'=>e=.returned (.agg #[.int .i64 2,.int .u32 0,.int .u64 0])/\Fr NoF w w':=by
 have HFU:=Hd (bM (h.fr0 ((Fr.refl NoF w).alloc (.cells #[.int .i64 0,.int .u32 0,.int .u64 0] 45))));rw[show decide (n<=pinL l)=false from by simpa using hf]at HFU;have c1:=h.c1;have c2:=h.c2;have lr:=h.hd.lt;obtain⟨va,vc,rfl,_,_⟩:=h.hl.shape;have hd:decide (room<=l.length)=true:=by simpa using hr
 clear h hf;go_enter func22,ntmps22
 go_wp2_with fail
 refine HFU.out.mono ?_;rintro e w1⟨rfl,rfl⟩;go_wp2
 go_region
 go_wp2
 (try simp only[Exit.inBlock,Exit.then])
 refine bodyPost_ret (af Tryz.results22 _ _ (dN w _ _ _).drew rfl underlying45 rfl (by kernel_rfl)) rfl ?_;exact⟨rfl,((Fr.refl NoF w).alloc _).drew⟩
theorem Eh{w:World}{v:Value}{l:List Pg}(h:SlC w 3 v l.length (gC l)){k:Nat}(hk:k<l.length):∃b off c,v=.slice (some ⟨b,off,none⟩) l.length c/\l.length<=c/\c<=maxLen/\b<w.heap.size/\w.cell? ⟨b,off+k*3,none⟩=some (.int .u32 (l[k].id:Nat)):=by
 obtain⟨b,off,c,e,h1,h2,h3,h4⟩:=SlC.at h hk (by omega);exact⟨b,off,c,e,h1,h2,h3,h4 _ _ (zH l hk).1⟩
theorem rK{g off cc:Nat}(h:RG w r n room l (.slice (some ⟨g,off,none⟩) l.length cc))(hf:¬n<=pinL l)(hr:l.length<room):Calls prog 22 #[.pointer (some ⟨r,0,none⟩)] w λe w'=>∃k,gU l k/\e=.returned (.agg #[.int .i64 0,.int .u32 (k+1:Nat),.int .u64 0])/\(∃lv',RG w' r n room (insG l k) lv'/\∀i,GFr r lv' i->GFr r (.slice (some ⟨g,off,none⟩) l.length cc) i\/w.heap.size<=i)/\Fr (λk=>k=r) w w':=by
 have fA:Fr NoF w (w.alloc (.cells #[.int .i64 0,.int .u32 0,.int .u64 0] 45)):=(Fr.refl NoF w).alloc _;have HFU:=Hd (bM (h.fr0 fA));rw[show decide (n<=pinL l)=false from by simpa using hf]at HFU;have ha:=h.fr0 fA;have hbb:=h.b1;have hlr:decide (room<=l.length)=false:=by simp;omega
 have hll:l.length<=65535:=by omega
 have hrm:room<=65535:=hbb.2.2;have HRB:=Hd (dN w (.int .i64 0) (.int .u32 0) (.int .u64 0) (t:=45));have HFA:=Hd fA;have hsa:w.heap.size<(w.alloc (.cells #[.int .i64 0,.int .u32 0,.int .u64 0] 45)).heap.size:=by simp
 have HRN:=Hd (h.lt r (.inl rfl));have lbw:=h.hd.lt;have KG:Hid (∀i,GFr r (.slice (some ⟨g,off,none⟩) l.length cc) i->i<w.heap.size):=h.lt;clear h hf fA;go_enter func22,ntmps22
 go_wp2_with fail
 refine HFU.out.mono ?_;clear HFU;rintro e w1⟨rfl,rfl⟩;generalize(w.alloc (.cells #[.int .i64 0,.int .u32 0,.int .u64 0] 45))=wa at*;generalize hrb:w.heap.size=rb at*;have HRB0:=Hd hrb;clear hrb;have c1:=ha.c1;have c2:=ha.c2;have lb:=ha.hd.lt;have f2:=ha.hd.frozen 2;have HH:=Hd ha;have HS:=Hd ha.slc;have KC:Hid (∀W,Fr NoF wa W->W.cell? ⟨r,2,none⟩=some (.slice (some ⟨g,off,none⟩) l.length cc)/\W.frozen? ⟨r,2,none⟩=false/\r<W.heap.size):=λW f=>⟨(ha.fr0 f).c2,(ha.fr0 f).hd.frozen 2,(ha.fr0 f).hd.lt⟩
 have hcc:l.length<=cc/\cc<=9223372036854775807:=by
  obtain⟨a',c',e,q1,q2⟩:=ha.hl.shape;simp only[Value.slice.injEq]at e;obtain⟨_,_,rfl⟩:=e;unfold maxLen at q2;exact⟨q1,q2⟩
 have hc1:=hcc.1;have hc2:=hcc.2;have lg:=ha.hl.lt g rfl
 have HFI:Hid (∀k,k<=l.length->∀W,Fr NoF wa W->SlC W 3 (.slice (some ⟨g,off,none⟩) k cc) k (gC (l.take k))):=by
  intro k hk W f;by_cases q:cc=0
  .subst q
   obtain rfl:k=0:=by omega
   exact⟨_,_,rfl,rfl,λu hu=>(by simp[gC]at hu),Nat.le_refl _,by unfold maxLen;omega,.inr ⟨g,off,rfl,Nat.lt_of_lt_of_le lg f.size,λj u hj=>(by simp[gC]at hj)⟩⟩
  .exact mT (HS.out.keep f) hk (by omega)
 have HLA:Hid (∀k,k<=l.length->k<cc->∀W,Fr NoF wa W->SlC W 3 (.slice (some ⟨g,off+k*3,none⟩) (l.length-k) (cc-k)) (l.length-k) (gC (l.drop k))):=λk hk q W f=>qI (HS.out.keep f) hk q
 have HLG:=Hd lg;clear hcc lg hbb ha;go_wp2
 go_region
 go_wp2
 go_loopw [3,4] (λkk i wr=>∃k:Nat,k<=l.length/\i=.int .u32 ((k+1:Nat):Int)/\kk=.int .i64 k/\wr=wa.drew/\Hid (∀j (hj:j<l.length),j<k->l[j].id=j+1)) (λkk _ _=>l.length-(intOf kk).toNat)
 case atStart=>exact⟨0,Nat.zero_le _,rfl,rfl,rfl,λj _ hj=>(by omega)⟩
 case round=>
  obtain⟨k,hk,rfl,rfl,rfl,HN⟩:=hrel;by_cases hlt2:k<l.length
  .obtain⟨b',off',c',ev,_,_,hb,cy⟩:=Eh HS.out hlt2
   simp only[Value.slice.injEq,Option.some.injEq,Addr.mk.injEq]at ev;obtain⟨⟨rfl,rfl,_⟩,_,rfl⟩:=ev;by_cases he:l[k].id=k+1
   .have HE:=Hd he
    rw[he]at cy;have hcw:IntKind.u32.wrap ((k:Int)+1+1)=(k:Int)+1+1:=IntWalk.u32_in _ (by omega);clear he;go_wp2
    go_roundw
    case rel=>
     refine⟨k+1,by omega,by go_num,by go_num,by first|rfl|trivial,λj hj hjk=>?_⟩;by_cases e:j=k
     .subst e;exact HE.out
     .exact HN.out j hj (by omega)
    case measure=>simp[intOf]<;>omega
   .have HE:=Hd he
    have hne:¬((l[k].id:Nat):Int)=(k:Int)+1:=λq=>he (by omega)
    clear he;generalize hy:l[k].id=y at cy hne;have HY:=Hd hy;have hbq:((y:Int)==(k:Int)+1)=false:=by simpa using hne
    clear hy hne;have HG:Hid (gU l k):=⟨hk,HN.out,λq=>HE.out⟩;have HFK:=Hd (HFI.out k hk)
    obtain⟨AD,hAD,hLA2⟩:∃AD,(if cc=k then some ⟨g,off,none⟩else some ⟨g,off+k*3,none⟩)=AD/\Hid (∀W,Fr NoF wa W->SlC W 3 (.slice AD (l.length-k) (cc-k)) (l.length-k) (gC (l.drop k))):=by
     by_cases q:cc=k
     .refine⟨_,rfl,λW f=>?_⟩
      rw[if_pos q];have e1:l.length-k=0:=by omega
      have e2:l.drop k=[]:=List.drop_of_length_le (by omega);have e3:cc-k=0:=by omega
      rw[e1,e2,e3];exact⟨_,_,rfl,rfl,λu hu=>(by cases hu),Nat.le_refl _,by unfold maxLen;omega,.inr ⟨g,off,rfl,Nat.lt_of_lt_of_le HLG.out f.size,λj u hj=>(by simp[gC]at hj)⟩⟩
     .exact⟨_,rfl,λW f=>by rw[if_neg q];exact HLA.out k hk (by omega) W f⟩
    have HOW:Hid (∀W,Fr NoF wa W->∀g,g=W.heap.size->(W.alloc (.cells #[] 56)).ownsRow wa.heap.size 56 3 (.slice (some ⟨g,0,none⟩) 0 0) 0 []):=λW f g q=>aQ f.size #[] 56 3 0 _ q rfl (by unfold maxLen;omega)
    have fd:Fr NoF wa wa.drew:=(Fr.refl NoF wa).drew;have HFD:=Hd fd;have hkI:0<=(k:Int):=by omega
    have hkl:(k:Int)<=(l.length:Int):=by omega
    have hkc:k<=cc:=by omega
    have hsb:k+1+(l.length-k)<=65536:=by omega
    clear fd hb
    go_wp2_with(at_builtin;go_must(refine eT (base:=wa.heap.size) EIG rfl _ _ rfl (by rfl) (by rfl) (by simp<;>omega) (HOW.out _ HFD.out wa.heap.size (by simp)) (HFK.out _ (HFD.out.alloc _)) (by unfold maxLen;omega) (by omega) ?_);intro v5 w5 hown5 hf5 hob5;rw[Nat.zero_add,List.nil_append]at hown5;obtain⟨a5,c5,rfl,_,_⟩:=(SlC.ofOwn hown5 (df _)).shape;have HO5:=Hd hown5;have HF5:Hid (Fr NoF wa w5):=Fr.trans (F:=NoF) (a:=wa) (((Fr.refl NoF wa).drew).alloc _) hf5 (λi q=>.inr (by cases q;exact Nat.le_refl _));obtain⟨x1,x2,x3⟩:=KC.out w5 HF5.out;have hs5:=HF5.out.size;clear hown5 hf5 hob5)
    have HNW:Hid (∀W,Fr NoF (w5.alloc (.cells #[.int .u32 ((k:Int)+1),.int .u64 0,.int .i64 1] 56)) W->SlC W 3 (.slice (some ⟨w5.heap.size,0,none⟩) 1 1) 1 [.int .u32 ((k:Int)+1),.int .u64 0,.int .i64 1]):=λW f=>(SlC.ofOwn (aQ (w0:=w5) (Nat.le_refl _) #[.int .u32 ((k:Int)+1),.int .u64 0,.int .i64 1] 56 3 1 _ rfl rfl (by unfold maxLen;omega)) (by simp[Value.oneCell'])).keep f
    have HO5K:Hid (∀W,Fr NoF w5 W->W.ownsRow wa.heap.size 56 3 (.slice a5 k c5) k (gC (l.take k))):=λW f=>ak HO5.out f (λ_ _ q=>q)
    go_region_law(first
     |(refine eU (base:=wa.heap.size) EIG rfl (.tmp 52) (.tmp 55) rfl (by rfl) (by rfl) (by simp;try omega) (HO5K.out _ (by repeat(first|exact Fr.refl NoF _|apply Fr.drew|apply Fr.alloc))) (HNW.out _ (by repeat(first|exact Fr.refl NoF _|apply Fr.drew|apply Fr.alloc))) (by unfold maxLen;omega) (by omega) ?_;intro v6 w6 hown6 hf6 hob6;obtain⟨a6,c6,rfl,_,_⟩:=(SlC.ofOwn hown6 (λu hu=>by rcases List.mem_append.1 hu with q|q;exact df _ u q;simp at q;rcases q with rfl|rfl|rfl<;>rfl)).shape;have HO6:=Hd hown6;have HF6:Hid (Fr NoF wa w6):=Fr.trans (F:=NoF) (a:=wa) (by repeat(first|exact HF5.out|apply Fr.drew|apply Fr.alloc)) hf6 (λi q=>.inr (aj HO5.out i q));obtain⟨y1,y2,y3⟩:=KC.out w6 HF6.out;have hs6:=HF6.out.size;clear hown6 hf6 hob6)
     |(refine eU (base:=wa.heap.size) EIG rfl (.tmp 56) (.tmp 62) rfl (by rfl) (by rfl) hs6 HO6.out (hLA2.out _ HF6.out) (by unfold maxLen;omega) (by omega) ?_;intro v7 w7 hown7 hf7 hob7;obtain⟨a7,c7,rfl,_,_⟩:=(SlC.ofOwn hown7 (λu hu=>by rcases List.mem_append.1 hu with q|q;rcases List.mem_append.1 q with q|q;exact df _ u q;simp at q;rcases q with rfl|rfl|rfl<;>rfl;exact df _ u q)).shape;have HO7:=Hd hown7;have HF7:=Hd (HF6.out.trans hf7 (λi q=>.inr (aj HO6.out i q)));obtain⟨z1,z2,z3⟩:=KC.out w7 HF7.out;clear hown7 hf7 hob7))
    all_goals
     have RB7:=HRB.out.fr HF7.out (λq=>q);have t0:w7.cell? ⟨rb,0,none⟩=some (.int .i64 0):=RB7.cell (i:=0) (by omega);have t1:w7.cell? ⟨rb,1,none⟩=some (.int .u32 0):=RB7.cell (i:=1) (by omega);have t2:w7.cell? ⟨rb,2,none⟩=some (.int .u64 0):=RB7.cell (i:=2) (by omega);have g0:=RB7.frozen 0;have g1:=RB7.frozen 1;have g2:=RB7.frozen 2;have lr:=RB7.lt;have HRB7:=Hd RB7;have hne:¬rb=r:=by omega
     have hne2:¬r=rb:=by omega
     clear RB7;go_wp2;obtain⟨r1,r2⟩:=HH.out.ins HG.out.le (by omega) HO7.out HF7.out;have RB:=HRB7.out.other (a:=⟨r,2,none⟩) hne (.slice a7 (k+1+(l.length-k)) c7);have RS:=((RB.set 0 (.int .i64 0)).set 1 (.int .u32 ((k:Int)+1))).set 2 (.int .u64 0);have FS:=(((Fr.refl (λi=>i=rb) (w7.setCell ⟨r,2,none⟩ (.slice a7 (k+1+(l.length-k)) c7))).setCell (p:=⟨rb,0,none⟩) (.inl rfl) (.int .i64 0)).setCell (p:=⟨rb,1,none⟩) (.inl rfl) (.int .u32 ((k:Int)+1))).setCell (p:=⟨rb,2,none⟩) (.inl rfl) (.int .u64 0);have hov:=aj HO7.out;have hw0:=HRB0.out
     (try simp only[Exit.inBlock,Exit.then])
     refine bodyPost_ret (af Tryz.results22 _ _ RS rfl underlying45 rfl (by kernel_rfl)) rfl ?_;refine⟨k,HG.out,rfl,⟨_,r1.fr FS (λi q e=>?_),λi q=>?_⟩,((HFA.out.mono (λ_ q=>q.elim)).trans r2 (λi q=>.inl q)).trans FS (λi q=>.inr (by omega))⟩
     .rcases q with q|q
      .omega
      .have:=hov i q;omega
     .rcases q with q|q
      .exact .inl (.inl q)
      .right;have:=hov i q;omega
  .have hge:decide (k<l.length)=false:=by simpa using hlt2
   have HG:Hid (gU l k):=⟨hk,HN.out,λq=>absurd q hlt2⟩;have HFK:=Hd (HFI.out k hk)
   obtain⟨AD,hAD,hLA2⟩:∃AD,(if cc=k then some ⟨g,off,none⟩else some ⟨g,off+k*3,none⟩)=AD/\Hid (∀W,Fr NoF wa W->SlC W 3 (.slice AD (l.length-k) (cc-k)) (l.length-k) (gC (l.drop k))):=by
    by_cases q:cc=k
    .refine⟨_,rfl,λW f=>?_⟩
     rw[if_pos q];have e1:l.length-k=0:=by omega
     have e2:l.drop k=[]:=List.drop_of_length_le (by omega);have e3:cc-k=0:=by omega
     rw[e1,e2,e3];exact⟨_,_,rfl,rfl,λu hu=>(by cases hu),Nat.le_refl _,by unfold maxLen;omega,.inr ⟨g,off,rfl,Nat.lt_of_lt_of_le HLG.out f.size,λj u hj=>(by simp[gC]at hj)⟩⟩
    .exact⟨_,rfl,λW f=>by rw[if_neg q];exact HLA.out k hk (by omega) W f⟩
   have HOW:Hid (∀W,Fr NoF wa W->∀g,g=W.heap.size->(W.alloc (.cells #[] 56)).ownsRow wa.heap.size 56 3 (.slice (some ⟨g,0,none⟩) 0 0) 0 []):=λW f g q=>aQ f.size #[] 56 3 0 _ q rfl (by unfold maxLen;omega)
   have fd:Fr NoF wa wa.drew:=(Fr.refl NoF wa).drew;have HFD:=Hd fd;have hkI:0<=(k:Int):=by omega
   have hkl:(k:Int)<=(l.length:Int):=by omega
   have hkc:k<=cc:=by omega
   have hsb:k+1+(l.length-k)<=65536:=by omega
   clear fd hlt2
   go_wp2_with(at_builtin;go_must(refine eT (base:=wa.heap.size) EIG rfl _ _ rfl (by rfl) (by rfl) (by simp<;>omega) (HOW.out _ HFD.out wa.heap.size (by simp)) (HFK.out _ (HFD.out.alloc _)) (by unfold maxLen;omega) (by omega) ?_);intro v5 w5 hown5 hf5 hob5;rw[Nat.zero_add,List.nil_append]at hown5;obtain⟨a5,c5,rfl,_,_⟩:=(SlC.ofOwn hown5 (df _)).shape;have HO5:=Hd hown5;have HF5:Hid (Fr NoF wa w5):=Fr.trans (F:=NoF) (a:=wa) (((Fr.refl NoF wa).drew).alloc _) hf5 (λi q=>.inr (by cases q;exact Nat.le_refl _));obtain⟨x1,x2,x3⟩:=KC.out w5 HF5.out;have hs5:=HF5.out.size;clear hown5 hf5 hob5)
   have HNW:Hid (∀W,Fr NoF (w5.alloc (.cells #[.int .u32 ((k:Int)+1),.int .u64 0,.int .i64 1] 56)) W->SlC W 3 (.slice (some ⟨w5.heap.size,0,none⟩) 1 1) 1 [.int .u32 ((k:Int)+1),.int .u64 0,.int .i64 1]):=λW f=>(SlC.ofOwn (aQ (w0:=w5) (Nat.le_refl _) #[.int .u32 ((k:Int)+1),.int .u64 0,.int .i64 1] 56 3 1 _ rfl rfl (by unfold maxLen;omega)) (by simp[Value.oneCell'])).keep f
   have HO5K:Hid (∀W,Fr NoF w5 W->W.ownsRow wa.heap.size 56 3 (.slice a5 k c5) k (gC (l.take k))):=λW f=>ak HO5.out f (λ_ _ q=>q)
   go_region_law(first
    |(refine eU (base:=wa.heap.size) EIG rfl (.tmp 52) (.tmp 55) rfl (by rfl) (by rfl) (by simp;try omega) (HO5K.out _ (by repeat(first|exact Fr.refl NoF _|apply Fr.drew|apply Fr.alloc))) (HNW.out _ (by repeat(first|exact Fr.refl NoF _|apply Fr.drew|apply Fr.alloc))) (by unfold maxLen;omega) (by omega) ?_;intro v6 w6 hown6 hf6 hob6;obtain⟨a6,c6,rfl,_,_⟩:=(SlC.ofOwn hown6 (λu hu=>by rcases List.mem_append.1 hu with q|q;exact df _ u q;simp at q;rcases q with rfl|rfl|rfl<;>rfl)).shape;have HO6:=Hd hown6;have HF6:Hid (Fr NoF wa w6):=Fr.trans (F:=NoF) (a:=wa) (by repeat(first|exact HF5.out|apply Fr.drew|apply Fr.alloc)) hf6 (λi q=>.inr (aj HO5.out i q));obtain⟨y1,y2,y3⟩:=KC.out w6 HF6.out;have hs6:=HF6.out.size;clear hown6 hf6 hob6)
    |(refine eU (base:=wa.heap.size) EIG rfl (.tmp 56) (.tmp 62) rfl (by rfl) (by rfl) hs6 HO6.out (hLA2.out _ HF6.out) (by unfold maxLen;omega) (by omega) ?_;intro v7 w7 hown7 hf7 hob7;obtain⟨a7,c7,rfl,_,_⟩:=(SlC.ofOwn hown7 (λu hu=>by rcases List.mem_append.1 hu with q|q;rcases List.mem_append.1 q with q|q;exact df _ u q;simp at q;rcases q with rfl|rfl|rfl<;>rfl;exact df _ u q)).shape;have HO7:=Hd hown7;have HF7:=Hd (HF6.out.trans hf7 (λi q=>.inr (aj HO6.out i q)));obtain⟨z1,z2,z3⟩:=KC.out w7 HF7.out;clear hown7 hf7 hob7))
   all_goals
    have RB7:=HRB.out.fr HF7.out (λq=>q);have t0:w7.cell? ⟨rb,0,none⟩=some (.int .i64 0):=RB7.cell (i:=0) (by omega);have t1:w7.cell? ⟨rb,1,none⟩=some (.int .u32 0):=RB7.cell (i:=1) (by omega);have t2:w7.cell? ⟨rb,2,none⟩=some (.int .u64 0):=RB7.cell (i:=2) (by omega);have g0:=RB7.frozen 0;have g1:=RB7.frozen 1;have g2:=RB7.frozen 2;have lr:=RB7.lt;have HRB7:=Hd RB7;have hne:¬rb=r:=by omega
    have hne2:¬r=rb:=by omega
    clear RB7;go_wp2;obtain⟨r1,r2⟩:=HH.out.ins HG.out.le (by omega) HO7.out HF7.out;have RB:=HRB7.out.other (a:=⟨r,2,none⟩) hne (.slice a7 (k+1+(l.length-k)) c7);have RS:=((RB.set 0 (.int .i64 0)).set 1 (.int .u32 ((k:Int)+1))).set 2 (.int .u64 0);have FS:=(((Fr.refl (λi=>i=rb) (w7.setCell ⟨r,2,none⟩ (.slice a7 (k+1+(l.length-k)) c7))).setCell (p:=⟨rb,0,none⟩) (.inl rfl) (.int .i64 0)).setCell (p:=⟨rb,1,none⟩) (.inl rfl) (.int .u32 ((k:Int)+1))).setCell (p:=⟨rb,2,none⟩) (.inl rfl) (.int .u64 0);have hov:=aj HO7.out;have hw0:=HRB0.out
    (try simp only[Exit.inBlock,Exit.then])
    refine bodyPost_ret (af Tryz.results22 _ _ RS rfl underlying45 rfl (by kernel_rfl)) rfl ?_;refine⟨k,HG.out,rfl,⟨_,r1.fr FS (λi q e=>?_),λi q=>?_⟩,((HFA.out.mono (λ_ q=>q.elim)).trans r2 (λi q=>.inl q)).trans FS (λi q=>.inr (by omega))⟩
    .rcases q with q|q
     .omega
     .have:=hov i q;omega
    .rcases q with q|q
     .exact .inl (.inl q)
     .right;have:=hov i q;omega
end
section
variable{w w0 w':World}{r n room:Nat}{l:List Pg}{lv v:Value}
theorem wt(h:RG w r n room l (.slice none 0 0))(hf:¬n<=pinL l)(hr:l.length<room):Calls prog 22 #[.pointer (some ⟨r,0,none⟩)] w λe w'=>∃k,gU l k/\e=.returned (.agg #[.int .i64 0,.int .u32 (k+1:Nat),.int .u64 0])/\(∃lv',RG w' r n room (insG l k) lv'/\∀i,GFr r lv' i->GFr r (.slice none 0 0) i\/w.heap.size<=i)/\Fr (λk=>k=r) w w':=by
 have fA:Fr NoF w (w.alloc (.cells #[.int .i64 0,.int .u32 0,.int .u64 0] 45)):=(Fr.refl NoF w).alloc _;have HFU:=Hd (bM (h.fr0 fA));rw[show decide (n<=pinL l)=false from by simpa using hf]at HFU;have ha:=h.fr0 fA;have hbb:=h.b1
 have hz:l.length=0:=by
  obtain⟨a',c',e,q1,q2⟩:=h.hl.shape;simp only[Value.slice.injEq]at e;exact e.2.1.symm
 have hlr:decide (room<=0)=false:=by simp;omega
 have hr0:(room==0)=false:=by simp;omega
 have hr1:0<room:=by omega
 have HRB:=Hd (dN w (.int .i64 0) (.int .u32 0) (.int .u64 0) (t:=45));have HFA:=Hd fA;have hsa:w.heap.size<(w.alloc (.cells #[.int .i64 0,.int .u32 0,.int .u64 0] 45)).heap.size:=by simp
 have lbw:=h.hd.lt;have HG:Hid (gU l 0):=⟨Nat.zero_le _,λj _ q=>by omega,λq=>by omega⟩;clear h hf fA;go_enter func22,ntmps22
 go_wp2_with fail
 refine HFU.out.mono ?_;clear HFU;rintro e w1⟨rfl,rfl⟩;generalize(w.alloc (.cells #[.int .i64 0,.int .u32 0,.int .u64 0] 45))=wa at*;generalize hrb:w.heap.size=rb at*;have HRB0:=Hd hrb;clear hrb;have c1:=ha.c1;have c2:=ha.c2;have lb:=ha.hd.lt;have f2:=ha.hd.frozen 2;have KC:Hid (∀W,Fr NoF wa W->W.cell? ⟨r,2,none⟩=some (.slice none 0 0)/\W.frozen? ⟨r,2,none⟩=false/\r<W.heap.size):=λW f=>⟨(ha.fr0 f).c2,(ha.fr0 f).hd.frozen 2,(ha.fr0 f).hd.lt⟩
 have KK:Hid (∀v7 w7,w7.ownsRow wa.heap.size 56 3 v7 (0+1+0) (([]++[.int .u32 1,.int .u64 0,.int .i64 1])++[])->Fr NoF wa w7->RG (w7.setCell ⟨r,2,none⟩ v7) r n room (insG l 0) v7/\Fr (λi=>i=r) wa (w7.setCell ⟨r,2,none⟩ v7)):=by
  intro v7 w7 ho f;refine ha.ins (k:=0) (Nat.zero_le _) (by omega) ?_ f;have e0:l=[]:=List.eq_nil_of_length_eq_zero hz;rw[hz,e0];exact ho
 clear hz hr hbb ha;go_wp2
 go_region
 go_wp2
 go_loopw [3,4] (λkk i wr=>i=.int .u32 1/\kk=.int .i64 0/\wr=wa.drew) (λkk _ _=>0)
 case atStart=>exact⟨rfl,rfl,rfl⟩
 case round=>
  obtain⟨rfl,rfl,rfl⟩:=hrel;have HOW:Hid (∀W,Fr NoF wa W->∀g,g=W.heap.size->(W.alloc (.cells #[] 56)).ownsRow wa.heap.size 56 3 (.slice (some ⟨g,0,none⟩) 0 0) 0 []):=λW f g q=>aQ f.size #[] 56 3 0 _ q rfl (by unfold maxLen;omega)
  have fd:Fr NoF wa wa.drew:=(Fr.refl NoF wa).drew;have HFD:=Hd fd;clear fd
  go_wp2_with(at_builtin;go_must(refine eT (base:=wa.heap.size) EIG rfl _ _ rfl (by rfl) (by rfl) (by simp<;>omega) (HOW.out _ HFD.out wa.heap.size (by simp)) (SlC.nil _ 3) (by unfold maxLen;omega) (by omega) ?_);intro v5 w5 hown5 hf5 hob5;obtain⟨a5,c5,rfl,_,_⟩:=(SlC.ofOwn hown5 (λu hu=>by simp at hu)).shape;have HO5:=Hd hown5;have HF5:Hid (Fr NoF wa w5):=Fr.trans (F:=NoF) (a:=wa) (((Fr.refl NoF wa).drew).alloc _) hf5 (λi q=>.inr (by cases q;exact Nat.le_refl _));obtain⟨x1,x2,x3⟩:=KC.out w5 HF5.out;have hs5:=HF5.out.size;clear hown5 hf5 hob5)
  have HNW:Hid (∀W,Fr NoF (w5.alloc (.cells #[.int .u32 1,.int .u64 0,.int .i64 1] 56)) W->SlC W 3 (.slice (some ⟨w5.heap.size,0,none⟩) 1 1) 1 [.int .u32 1,.int .u64 0,.int .i64 1]):=λW f=>(SlC.ofOwn (aQ (w0:=w5) (Nat.le_refl _) #[.int .u32 1,.int .u64 0,.int .i64 1] 56 3 1 _ rfl rfl (by unfold maxLen;omega)) (by simp[Value.oneCell'])).keep f
  have HO5K:Hid (∀W,Fr NoF w5 W->W.ownsRow wa.heap.size 56 3 (.slice a5 0 c5) 0 []):=λW f=>ak (by simpa using HO5.out) f (λ_ _ q=>q)
  go_region_law(first
   |(refine eU (base:=wa.heap.size) EIG rfl (.tmp 52) (.tmp 55) rfl (by rfl) (by rfl) (by simp;try omega) (HO5K.out _ (by repeat(first|exact Fr.refl NoF _|apply Fr.drew|apply Fr.alloc))) (HNW.out _ (by repeat(first|exact Fr.refl NoF _|apply Fr.drew|apply Fr.alloc))) (by unfold maxLen;omega) (by omega) ?_;intro v6 w6 hown6 hf6 hob6;obtain⟨a6,c6,rfl,_,_⟩:=(SlC.ofOwn hown6 (λu hu=>by simp at hu;rcases hu with rfl|rfl|rfl<;>rfl)).shape;have HO6:=Hd hown6;have HF6:Hid (Fr NoF wa w6):=Fr.trans (F:=NoF) (a:=wa) (by repeat(first|exact HF5.out|apply Fr.drew|apply Fr.alloc)) hf6 (λi q=>.inr (aj HO5.out i q));obtain⟨y1,y2,y3⟩:=KC.out w6 HF6.out;have hs6:=HF6.out.size;clear hown6 hf6 hob6)
   |(refine eU (base:=wa.heap.size) EIG rfl (.tmp 56) (.tmp 62) rfl (by rfl) (by rfl) hs6 HO6.out (SlC.nil _ 3) (by unfold maxLen;omega) (by omega) ?_;intro v7 w7 hown7 hf7 hob7;obtain⟨a7,c7,rfl,_,_⟩:=(SlC.ofOwn hown7 (λu hu=>by simp at hu;rcases hu with rfl|rfl|rfl<;>rfl)).shape;have HO7:=Hd hown7;have HF7:=Hd (HF6.out.trans hf7 (λi q=>.inr (aj HO6.out i q)));obtain⟨z1,z2,z3⟩:=KC.out w7 HF7.out;clear hown7 hf7 hob7))
  all_goals
   have RB7:=HRB.out.fr HF7.out (λq=>q);have t0:w7.cell? ⟨rb,0,none⟩=some (.int .i64 0):=RB7.cell (i:=0) (by omega);have t1:w7.cell? ⟨rb,1,none⟩=some (.int .u32 0):=RB7.cell (i:=1) (by omega);have t2:w7.cell? ⟨rb,2,none⟩=some (.int .u64 0):=RB7.cell (i:=2) (by omega);have g0:=RB7.frozen 0;have g1:=RB7.frozen 1;have g2:=RB7.frozen 2;have lr:=RB7.lt;have HRB7:=Hd RB7;have hne:¬rb=r:=by omega
   have hne2:¬r=rb:=by omega
   clear RB7;go_wp2;obtain⟨r1,r2⟩:=KK.out _ _ HO7.out HF7.out;have RB:=HRB7.out.other (a:=⟨r,2,none⟩) hne (.slice a7 (0+1+0) c7);have RS:=((RB.set 0 (.int .i64 0)).set 1 (.int .u32 1)).set 2 (.int .u64 0);have FS:=(((Fr.refl (λi=>i=rb) (w7.setCell ⟨r,2,none⟩ (.slice a7 (0+1+0) c7))).setCell (p:=⟨rb,0,none⟩) (.inl rfl) (.int .i64 0)).setCell (p:=⟨rb,1,none⟩) (.inl rfl) (.int .u32 1)).setCell (p:=⟨rb,2,none⟩) (.inl rfl) (.int .u64 0);have hov:=aj HO7.out;have hw0:=HRB0.out
   (try simp only[Exit.inBlock,Exit.then])
   refine bodyPost_ret (af Tryz.results22 _ _ RS rfl underlying45 rfl (by kernel_rfl)) rfl ?_;refine⟨0,HG.out,rfl,⟨_,r1.fr FS (λi q e=>?_),λi q=>?_⟩,((HFA.out.mono (λ_ q=>q.elim)).trans r2 (λi q=>.inl q)).trans FS (λi q=>.inr (by omega))⟩
   .rcases q with q|q
    .omega
    .have:=hov i q;omega
   .rcases q with q|q
    .exact .inl (.inl q)
    .right;have:=hov i q;omega
theorem xf(h:RG w r n room l lv)(hf:¬n<=pinL l)(hr:l.length<room):Calls prog 22 #[.pointer (some ⟨r,0,none⟩)] w λe w'=>∃k,gU l k/\e=.returned (.agg #[.int .i64 0,.int .u32 (k+1:Nat),.int .u64 0])/\(∃lv',RG w' r n room (insG l k) lv'/\∀i,GFr r lv' i->GFr r lv i\/w.heap.size<=i)/\Fr (λk=>k=r) w w':=by
 obtain⟨a,c,rfl,h1,h2,_,_,h5⟩:=h.slc;rcases h5 with⟨rfl,rfl⟩|⟨g,off,rfl,_,_⟩
 .have hz:l.length=0:=by
   obtain⟨a',c',e,q1,q2⟩:=h.hl.shape;simp only[Value.slice.injEq]at e;omega
  rw[hz]at h⊢;exact wt h hf (by omega)
 .exact rK h hf hr
end
end
end Go.Proofs.YtoenclhimbpfeaaGreatDoor
