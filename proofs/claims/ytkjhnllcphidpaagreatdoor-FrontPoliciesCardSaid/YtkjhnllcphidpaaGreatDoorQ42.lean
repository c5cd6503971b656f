/- Part 42. -/
import Derived.Test.YtkjhnllcphidpaaGreatDoorQ41
namespace Go.Proofs.YtkjhnllcphidpaaGreatDoor
set_option linter.all false
set_option maxHeartbeats 16000000
set_option maxRecDepth 100000
section
open Go.Maps Go.Proofs.Tryz Go.RowKit
section
variable{p:PP}{q:Bool}{M:AM}{m:Nat}{w:World}{F:Nat->Prop}{o:OpF}{b fb i d mb s cnt:Nat}{ov cv lv:Value}{la:Option Nat}{pin:Nat->Nat}
theorem AM.newPage_id(n:Nat)(M:AM)(h:M.room<=65535):(M.newPage n).1.1<4294967296:=by
 have hg:M.gap<=M.ids.length:=by
  have:=(bS (M.ids.map (λx=>(x,0)))).le;rw[List.length_map]at this;exact this
 unfold AM.newPage
 split
 .exact(by decide:(0:Nat)<4294967296)
 .split
  .exact(by decide:(0:Nat)<4294967296)
  .show M.gap+1<4294967296
   omega
theorem AM.call_id(n:Nat)(M:AM)(o:OpF)(h:M.room<=65535):(M.call n o).1.id<4294967296:=by
 unfold AM.call
 repeat' split
 .exact AM.newPage_id n M h
 all_goals exact(by decide:(0:Nat)<4294967296)
theorem AM.newPage_room(n:Nat)(M:AM):(M.newPage n).2.room=M.room:=by
 unfold AM.newPage
 split
 .rfl
 .split<;>rfl
theorem AM.fetch_room(n:Nat)(M:AM)(id:Nat):(M.fetch n id).2.room=M.room:=by
 unfold AM.fetch
 split
 .split<;>rfl
 .rfl
theorem AM.unpin_room(M:AM)(id:Nat):(M.unpin id).2.room=M.room:=by unfold AM.unpin;split<;>rfl
theorem AM.write_room(M:AM)(id v:Nat):(M.write id v).2.room=M.room:=by unfold AM.write;split<;>rfl
theorem AM.delete_room(M:AM)(id:Nat):(M.delete id).2.room=M.room:=by
 unfold AM.delete
 split
 .split<;>rfl
 .rfl
theorem AM.call_room(n:Nat)(M:AM)(o:OpF):(M.call n o).2.room=M.room:=by
 unfold AM.call
 repeat' split
 .exact AM.newPage_room n M
 .exact AM.fetch_room n M _
 .exact AM.unpin_room M _
 .rfl
 .exact AM.write_room M _ _
 .rfl
 .rfl
 .exact AM.delete_room M _
 .rfl
theorem yJ(h:aq p q M m w F)(hm:m<59000)(hn:p.n<=64)(ho:o.ok)(ht:0<w.heap.size):
  Calls prog 12 #[p.ptr,o.val] w λe w'=>e=.returned (M.call p.n o).1.val/\Led (aq p q (M.call p.n o).2 (m+100)) F w w':=by
 unfold AM.call;by_cases h0:o.k=0
 .rw[if_pos h0];exact zC h hm hn ho ht h0
 rw[if_neg h0];by_cases h1:o.k=1
 .rw[if_pos h1];exact ur h hm hn ho ht h1
 rw[if_neg h1];by_cases h2:o.k=2
 .rw[if_pos h2];exact tK h hm hn ho ht h2
 rw[if_neg h2];by_cases h3:o.k=3
 .rw[if_pos h3];exact xD h hm hn ho ht h3
 rw[if_neg h3];by_cases h4:o.k=4
 .rw[if_pos h4];exact ss h hm hn ho ht h4
 rw[if_neg h4];by_cases h5:o.k=5
 .rw[if_pos h5];exact tJ h hm hn ho ht h5
 rw[if_neg h5];by_cases h6:o.k=6
 .rw[if_pos h6];exact mO h hm hn ho ht h6
 rw[if_neg h6];by_cases h7:o.k=7
 .rw[if_pos h7];exact rk h hm hn ho ht h7
 rw[if_neg h7];exact xJ h hm hn ho ht (by omega)
noncomputable def AM.ccall(n:Nat)(M:AM)(o:OpF)(pin:Nat->Nat):AnF×AM×(Nat->Nat):=
 if jS o pin=true then(ru M o,M,pin)else((M.call n o).1,(M.call n o).2,dA o (M.call n o).1 pin)
theorem AM.ccall_room(n:Nat)(M:AM)(o:OpF)(pin:Nat->Nat):(M.ccall n o pin).2.1.room=M.room:=by
 unfold AM.ccall
 split
 .rfl
 .exact AM.call_room n M o
theorem qw(h:aq p q M m w F)(hm:m<59000)(hn:p.n<=64)(hr:M.room<=65535)(ho:o.ok)(hc:Blk w b 5 (clC i ov d mb b s))(hf:Blk w fb 4 (frC p.ptr cv la lv))(hp:aG w mb cnt (aX pin))(hcn:cnt<100000)(hpn:∀x,pin x<100000)(ne:¬b=mb)(nb:¬F b)(nm:¬F mb)(nf:¬F fb)(ht:0<w.heap.size)(tm:¬0=mb):
  Calls prog 149 #[.pointer (some ⟨b,0,none⟩),.pointer (some ⟨fb,0,none⟩),o.val] w λe w'=>e=.returned (M.ccall p.n o pin).1.val/\fZ p q (M.ccall p.n o pin).2.1 (m+100) F w mb cnt (M.ccall p.n o pin).2.2 w':=by
 unfold AM.ccall
 cases hl:jS o pin with
 |true=>
  rw[if_pos rfl];refine(sN h ho hc hf hp hl).mono λe w' ⟨he,f⟩=>⟨he,F,cnt,(h.fr0 f).more (by omega),λi z=>.inl z,Nat.le_succ _,hp.fr f id,f.none⟩
 |false=>
  rw[if_neg (by simp)];have ha:=AM.call_id p.n M o hr;have HC:∀W,Fr NoF w W->Calls prog 12 #[p.ptr,o.val] W λe w'=>e=.returned (M.call p.n o).1.val/\Led (aq p q (M.call p.n o).2 (m+100)) F W w':=λW f=>yJ (h.fr0 f) hm hn ho (Nat.lt_of_lt_of_le ht f.size)
  exact xk h ho hc hf hp hcn hpn ne nb nm nf ht tm hl ha HC
end
end
section
open Go.Maps Go.RowKit
structure CSt where
 ops:List OpF
 done:Nat
 pin:Nat->Nat
 st:Nat
structure FSt where
 n:Nat
 cl:Nat->CSt
 la:Option Nat
 log:List EnF
def CSt.op(C:CSt):OpF:=C.ops.getD C.done ⟨0,0,0⟩
noncomputable def FSt.pick(nf:Nat)(M:AM)(S:FSt)(c:Nat):Bool×AM×FSt:=
 if(S.cl c).st=1 then
  (if S.la.isSome=true then(false,M,S)else(true,M,{S with la:=some c,cl:=upd S.cl c {S.cl c with st:=2}}))
 else if(S.cl c).st=2 then
  (true,(M.ccall nf (S.cl c).op (S.cl c).pin).2.1,{S with log:=S.log++[⟨c,(S.cl c).done,(S.cl c).op,(M.ccall nf (S.cl c).op (S.cl c).pin).1⟩],cl:=upd S.cl c {S.cl c with done:=(S.cl c).done+1,pin:=(M.ccall nf (S.cl c).op (S.cl c).pin).2.2,st:=3}})
 else if(S.cl c).st=3 then(true,M,{S with la:=none,cl:=upd S.cl c {S.cl c with st:=go1 (S.cl c).done (S.cl c).ops.length}})
 else(false,M,S)
structure FA where
 fb:Nat
 cb:Nat->Nat
 mb:Nat->Nat
 ca:Option Addr
 cc:Nat
 oa:Nat->Option Addr
 oc:Nat->Nat
 base:Nat
structure CSt.Ok(C:CSt)(m:Nat):Prop where
 len:C.ops.length<=1000
 ops:∀o∈C.ops,o.ok
 dn:C.done<=C.ops.length
 lt:C.st=1\/C.st=2->C.done<C.ops.length
 pin:∀x,C.pin x<=m
 st:C.st<=3
structure FrM(w:World)(p:PP)(A:FA)(S:FSt)(m:Nat)(lv:Value)(kd:Nat->Nat):Prop where
 n1:1<=S.n
 n8:S.n<=8
 hd:Blk w A.fb 4 (frC p.ptr (.slice A.ca S.n A.cc) (S.la.map A.cb) lv)
 cs:SlC w 1 (.slice A.ca S.n A.cc) S.n (ptrsC S.n A.cb)
 lal:∀c,S.la=some c->c<S.n
 cl:∀i,i<S.n->Blk w (A.cb i) 5 (clC i (.slice (A.oa i) (S.cl i).ops.length (A.oc i)) (S.cl i).done (A.mb i) (A.cb i) (S.cl i).st)
 op:∀i,i<S.n->SlC w 3 (.slice (A.oa i) (S.cl i).ops.length (A.oc i)) (S.cl i).ops.length (opsC (S.cl i).ops)
 pn:∀i,i<S.n->∃cnt,cnt<=m/\aG w (A.mb i) cnt (aX (S.cl i).pin)
 ok:∀i,i<S.n->(S.cl i).Ok m
 lg:fO w A.base lv S.log
 ll:S.log.length<=m
 bs:A.base<=w.heap.size
 k1:kd A.fb=1
 kc:∀i,i<S.n->kd (A.cb i)=5+2*i
 km:∀i,i<S.n->kd (A.mb i)=6+2*i
 kl:∀j,lv.ownBlock=some j->kd j=2
 kv:∀j,(Value.slice A.ca S.n A.cc).ownBlock=some j->kd j=0
 ko:∀i,i<S.n->∀j,(Value.slice (A.oa i) (S.cl i).ops.length (A.oc i)).ownBlock=some j->kd j=0
 lt:∀j,¬kd j=0->j<w.heap.size
section
variable{p:PP}{q:Bool}{M:AM}{m m':Nat}{w w':World}{A:FA}{S:FSt}{lv lv':Value}{kd kd':Nat->Nat}{G X:Nat->Prop}{c:Nat}{C':CSt}{la':Option Nat}{log':List EnF}
theorem FrM.turn(h:FrM w p A S m lv kd)(hc:c<S.n)(hm:m<=m')(f:Fr X w w')(hX:∀j,X j->kd j=1\/kd j=2\/kd j=3\/j=A.cb c\/j=A.mb c)
  (hd:Blk w' A.fb 4 (frC p.ptr (.slice A.ca S.n A.cc) (la'.map A.cb) lv'))(hla:∀x,la'=some x->x<S.n)
  (hcl:Blk w' (A.cb c) 5 (clC c (.slice (A.oa c) (S.cl c).ops.length (A.oc c)) C'.done (A.mb c) (A.cb c) C'.st))(hops:C'.ops=(S.cl c).ops)
  (hpn:∃cnt,cnt<=m'/\aG w' (A.mb c) cnt (aX C'.pin))(hok:C'.Ok m')(hlg:fO w' A.base lv' log')(hll:log'.length<=m')
  (hk:∀j,j<w.heap.size->¬kd j=2->¬kd j=3->kd' j=kd j)(hkl:∀j,lv'.ownBlock=some j->kd' j=2)(hlt:∀j,¬kd' j=0->j<w'.heap.size):
  FrM w' p A {S with la:=la',log:=log',cl:=upd S.cl c C'} m' lv' kd':=by
 have i0:∀j,kd j=0->¬X j:=λj e x=>by
  rcases hX j x with z|z|z|z|z
  .omega
  .omega
  .omega
  .have:=h.kc c hc;rw[z]at e;omega
  .have:=h.km c hc;rw[z]at e;omega
 have ic:∀i,i<S.n->¬i=c->¬X (A.cb i):=λi hi ne x=>by
  have e:=h.kc i hi;rcases hX _ x with z|z|z|z|z
  .omega
  .omega
  .omega
  .have:=h.kc c hc;rw[z]at e;omega
  .have:=h.km c hc;rw[z]at e;omega
 have im:∀i,i<S.n->¬i=c->¬X (A.mb i):=λi hi ne x=>by
  have e:=h.km i hi;rcases hX _ x with z|z|z|z|z
  .omega
  .omega
  .omega
  .have:=h.kc c hc;rw[z]at e;omega
  .have:=h.km c hc;rw[z]at e;omega
 have hsz:=f.size
 have eo:∀i,(upd S.cl c C' i).ops=(S.cl i).ops:=λi=>by
  by_cases e:i=c
  .subst e;rw[upd_same];exact hops
  .rw[ab _ _ e]
 exact{
  n1:=h.n1,n8:=h.n8,hd:=hd,cs:=h.cs.fr f (λb z=>i0 b (h.kv b z)),lal:=hla
  cl:=λi hi=>by
   show Blk w' (A.cb i) 5 (clC i (.slice (A.oa i) (upd S.cl c C' i).ops.length (A.oc i)) (upd S.cl c C' i).done (A.mb i) (A.cb i) (upd S.cl c C' i).st)
   rw[eo];by_cases e:i=c
   .subst e;rw[upd_same];exact hcl
   .rw[ab _ _ e];exact(h.cl i hi).fr f (ic i hi e)
  op:=λi hi=>by
   show SlC w' 3 (.slice (A.oa i) (upd S.cl c C' i).ops.length (A.oc i)) (upd S.cl c C' i).ops.length (opsC (upd S.cl c C' i).ops)
   rw[eo];exact(h.op i hi).fr f (λb z=>i0 b (h.ko i hi b z))
  pn:=λi hi=>by
   show∃cnt,cnt<=m'/\aG w' (A.mb i) cnt (aX (upd S.cl c C' i).pin)
   by_cases e:i=c
   .subst e;rw[upd_same];exact hpn
   .rw[ab _ _ e]
    obtain⟨cnt,h1,h2⟩:=h.pn i hi;exact⟨cnt,by omega,h2.fr f (im i hi e)⟩
  ok:=λi hi=>by
   show(upd S.cl c C' i).Ok m'
   by_cases e:i=c
   .subst e;rw[upd_same];exact hok
   .rw[ab _ _ e]
    have z:=h.ok i hi;exact⟨z.len,z.ops,z.dn,z.lt,λx=>Nat.le_trans (z.pin x) hm,z.st⟩
  lg:=hlg,ll:=hll,bs:=Nat.le_trans h.bs hsz
  k1:=by rw[hk _ h.hd.lt (by rw[h.k1];omega) (by rw[h.k1];omega)];exact h.k1
  kc:=λi hi=>by have e:=h.kc i hi;rw[hk _ (h.cl i hi).lt (by omega) (by omega)];exact e
  km:=λi hi=>by
   have e:=h.km i hi;obtain⟨cnt,_,h2⟩:=h.pn i hi;rw[hk _ h2.lt (by omega) (by omega)];exact e
  kl:=hkl
  kv:=λj z=>by have e:=h.kv j z;rw[hk _ (h.cs.lt j z) (by omega) (by omega)];exact e
  ko:=λi hi j z=>by
   have z':(Value.slice (A.oa i) (S.cl i).ops.length (A.oc i)).ownBlock=some j:=by rw[<-eo];exact z
   have e:=h.ko i hi j z';rw[hk _ ((h.op i hi).lt j z') (by omega) (by omega)];exact e
  lt:=hlt}
def FrW(p:PP)(q:Bool)(A:FA)(M:AM)(S:FSt)(m:Nat)(w:World)(G:Nat->Prop):Prop:=
 ∃F lv kd,aq p q M m w F/\M.room<=65535/\FrM w p A S m lv kd/\(∀j,F j->kd j=3)/\(∀j,G j↔¬kd j=0)/\0<w.heap.size/\kd 0=0
end
end
section
open Go.Maps Go.Proofs.Tryz Go.RowKit
theorem rT:Own 130:=bG func130 (by kernel_rfl) rfl
theorem Fy:Own 143:=bG func143 (by kernel_rfl) rfl
theorem zg:Own 150:=bG func150 (by kernel_rfl) rfl
theorem tc{pin:Nat->Nat}{m i v:Nat}(h:∀x,pin x<=m)(hv:v<=m+1)(x:Nat):upd pin i v x<=m+1:=by
 by_cases e:x=i
 .subst e;rw[upd_same];exact hv
 .rw[ab _ _ e];have:=h x;omega
theorem wY(n:Nat)(M:AM)(o:OpF)(pin:Nat->Nat)(m:Nat)(h:∀x,pin x<=m)(x:Nat):(M.ccall n o pin).2.2 x<=m+1:=by
 unfold AM.ccall
 split
 .have:=h x;show pin x<=_;omega
 .show dA o (M.call n o).1 pin x<=m+1
  unfold dA;have hx:=h x
  split
  .split
   .exact tc h (by have:=h (M.call n o).1.id;omega) x
   .split
    .exact tc h (by have:=h o.id;omega) x
    .split
     .exact tc h (by have:=h o.id;omega) x
     .omega
  .omega
section
variable{p:PP}{q:Bool}{M:AM}{m:Nat}{w w':World}{A:FA}{S:FSt}{G:Nat->Prop}{k:Int}
theorem FrW.fr0(h:FrW p q A M S m w G)(f:Fr NoF w w'):FrW p q A M S m w' G:=by
 obtain⟨F,lv,kd,h1,h2,h3,h4,h5,h6,h7⟩:=h;refine⟨F,lv,kd,h1.fr0 f,h2,{h3 with hd:=h3.hd.fr f id,cs:=h3.cs.keep f,cl:=λi hi=>(h3.cl i hi).fr f id,op:=λi hi=>(h3.op i hi).keep f,pn:=λi hi=>?_,lg:=am h3.lg f (λ_ _ z=>z),bs:=Nat.le_trans h3.bs f.size,lt:=λj z=>Nat.lt_of_lt_of_le (h3.lt j z) f.size},h4,h5,Nat.lt_of_lt_of_le h6 f.size,h7⟩;obtain⟨cnt,a,b⟩:=h3.pn i hi;exact⟨cnt,a,b.fr f id⟩
theorem wH(h:FrW p q A M S m w G)(hs:(S.cl (whoF k S.n)).st=0):
  Calls prog 20 #[.pointer (some ⟨A.fb,0,none⟩),.int .i64 k] w λe w'=>e=.returned (.bool false)/\Fr NoF w w':=by
 obtain⟨F,lv,kd,h1,h2,h3,h4,h5,h6,h7⟩:=h;have hc:whoF k S.n<S.n:=Nat.mod_lt _ (by have:=h3.n1;omega);exact xa h3.n1 h3.n8 h3.hd h3.cs (h3.cl _ hc) (by rw[hs];rfl)
theorem xw(h:FrW p q A M S m w G)(hs:(S.cl (whoF k S.n)).st=1):
  Calls prog 20 #[.pointer (some ⟨A.fb,0,none⟩),.int .i64 k] w λe w'=>∃r,e=.returned (.bool r)/\r=(S.pick p.n M (whoF k S.n)).1/\Led (FrW p q A (S.pick p.n M (whoF k S.n)).2.1 (S.pick p.n M (whoF k S.n)).2.2 m) G w w':=by
 have hW:=h;obtain⟨F,lv,kd,h1,h2,h3,h4,h5,h6,h7⟩:=h;have hc:whoF k S.n<S.n:=Nat.mod_lt _ (by have:=h3.n1;omega);have hcl:=h3.cl _ hc;unfold FSt.pick;rw[if_pos hs]
 cases hla:S.la with
 |some c=>
  rw[if_pos (show(some c).isSome=true from rfl)];have hd:=h3.hd;rw[hla]at hd;refine gE h3.n1 h3.n8 h3.hd h3.cs hcl (by rw[hs];rfl) rT (Q:=λr w'=>r=false/\Led (FrW p q A M S m) G w w') (λW f=>?_);refine(Ch (hd.fr f id)).mono λe w' ⟨he,hw⟩=>⟨false,he,rfl,G,hw▸hW.fr0 f,hw▸f.none,λi z=>.inl z⟩
 |none=>
  rw[if_neg (by simp)];have hd:=h3.hd;rw[hla]at hd;have ne:¬A.cb (whoF k S.n)=A.fb:=λe=>by have a:=h3.kc _ hc;have b:=h3.k1;rw[e]at a;omega
  refine gE h3.n1 h3.n8 h3.hd h3.cs hcl (by rw[hs];rfl) rT (Q:=λr w'=>r=true/\Led (FrW p q A M _ m) G w w') (λW f=>?_);refine(Bm (hcl.fr f id) (hd.fr f id) ne).mono λe w' ⟨he,c1,c2,c3⟩=>⟨true,he,rfl,?_⟩
  have ft:Fr (λj=>j=A.cb (whoF k S.n)\/j=A.fb) w w':=f.none.trans c3 (λj z=>.inl z);have hx:∀j,(j=A.cb (whoF k S.n)\/j=A.fb)->kd j=1\/kd j=2\/kd j=3\/j=A.cb (whoF k S.n)\/j=A.mb (whoF k S.n):=λj z=>z.elim (λe=>.inr (.inr (.inr (.inl e)))) (λe=>.inl (e▸h3.k1))
  have ok:=h3.ok _ hc
  have hT:=h3.turn hc (Nat.le_refl m) (la':=some (whoF k S.n)) (log':=S.log) (lv':=lv) (kd':=kd) (C':={S.cl (whoF k S.n)with st:=2}) ft hx c2 (λx e=>by cases e;exact hc) c1 rfl
   (by obtain⟨cnt,a,b⟩:=h3.pn _ hc;exact⟨cnt,a,b.fr ft (λz=>z.elim (λe=>by have a:=h3.kc _ hc;have b:=h3.km _ hc;rw[e]at b;omega) (λe=>by have a:=h3.k1;have b:=h3.km _ hc;rw[e]at b;omega))⟩)
   ⟨ok.len,ok.ops,ok.dn,λ_=>ok.lt (.inl hs),ok.pin,by show 2<=3;omega⟩
   (am h3.lg ft (λb z e=>e.elim (λe=>by have a:=h3.kl b z;have c:=h3.kc _ hc;rw[e]at a;omega) (λe=>by have a:=h3.kl b z;have c:=h3.k1;rw[e]at a;omega))) h3.ll
   (λj _ _ _=>rfl) h3.kl (λj z=>Nat.lt_of_lt_of_le (h3.lt j z) ft.size)
  refine⟨G,⟨F,lv,kd,h1.fro ft (λj z e=>e.elim (λe=>by have a:=h4 j z;have b:=h3.kc _ hc;rw[<-e]at b;omega) (λe=>by have a:=h4 j z;have b:=h3.k1;rw[<-e]at b;omega)) (λe=>e.elim (λe=>by have b:=h3.kc _ hc;rw[<-e]at b;omega) (λe=>by have b:=h3.k1;rw[<-e]at b;omega)),h2,hT,h4,h5,Nat.lt_of_lt_of_le h6 ft.size,h7⟩,ft.mono (λj z=>(h5 j).2 (z.elim (λe=>by have b:=h3.kc _ hc;rw[e];omega) (λe=>by have b:=h3.k1;rw[e];omega))),λi z=>.inl z⟩
theorem yb(h:FrW p q A M S m w G)(hs:(S.cl (whoF k S.n)).st=3):
  Calls prog 20 #[.pointer (some ⟨A.fb,0,none⟩),.int .i64 k] w λe w'=>∃r,e=.returned (.bool r)/\r=(S.pick p.n M (whoF k S.n)).1/\Led (FrW p q A (S.pick p.n M (whoF k S.n)).2.1 (S.pick p.n M (whoF k S.n)).2.2 m) G w w':=by
 obtain⟨F,lv,kd,h1,h2,h3,h4,h5,h6,h7⟩:=h;have hc:whoF k S.n<S.n:=Nat.mod_lt _ (by have:=h3.n1;omega);have hcl:=h3.cl _ hc;have ok:=h3.ok _ hc;unfold FSt.pick;rw[if_neg (by omega),if_neg (by omega),if_pos hs];have ne:¬A.cb (whoF k S.n)=A.fb:=λe=>by have a:=h3.kc _ hc;have b:=h3.k1;rw[e]at a;omega
 refine gE h3.n1 h3.n8 h3.hd h3.cs hcl (by rw[hs];rfl) zg (Q:=λr w'=>r=true/\Led (FrW p q A M _ m) G w w') (λW f=>?_);refine(sJ (by have:=ok.dn;have:=ok.len;omega) (by have:=ok.len;omega) (hcl.fr f id) (h3.hd.fr f id) ne).mono λe w' ⟨he,c1,c2,c3⟩=>⟨true,he,rfl,?_⟩
 have ft:Fr (λj=>j=A.cb (whoF k S.n)\/j=A.fb) w w':=f.none.trans c3 (λj z=>.inl z);have hx:∀j,(j=A.cb (whoF k S.n)\/j=A.fb)->kd j=1\/kd j=2\/kd j=3\/j=A.cb (whoF k S.n)\/j=A.mb (whoF k S.n):=λj z=>z.elim (λe=>.inr (.inr (.inr (.inl e)))) (λe=>.inl (e▸h3.k1))
 have hT:=h3.turn hc (Nat.le_refl m) (la':=none) (log':=S.log) (lv':=lv) (kd':=kd) (C':={S.cl (whoF k S.n)with st:=go1 (S.cl (whoF k S.n)).done (S.cl (whoF k S.n)).ops.length}) ft hx c2 (λx e=>by cases e) c1 rfl
  (by obtain⟨cnt,a,b⟩:=h3.pn _ hc;exact⟨cnt,a,b.fr ft (λz=>z.elim (λe=>by have a:=h3.kc _ hc;have b:=h3.km _ hc;rw[e]at b;omega) (λe=>by have a:=h3.k1;have b:=h3.km _ hc;rw[e]at b;omega))⟩)
  ⟨ok.len,ok.ops,ok.dn,λz=>by
   unfold go1 at z
   dsimp only at z⊢
   split at z
   .assumption
   .omega,ok.pin,by show go1 _ _<=3;unfold go1;split<;>omega⟩
  (am h3.lg ft (λb z e=>e.elim (λe=>by have a:=h3.kl b z;have c:=h3.kc _ hc;rw[e]at a;omega) (λe=>by have a:=h3.kl b z;have c:=h3.k1;rw[e]at a;omega))) h3.ll
  (λj _ _ _=>rfl) h3.kl (λj z=>Nat.lt_of_lt_of_le (h3.lt j z) ft.size)
 refine⟨G,⟨F,lv,kd,h1.fro ft (λj z e=>e.elim (λe=>by have a:=h4 j z;have b:=h3.kc _ hc;rw[<-e]at b;omega) (λe=>by have a:=h4 j z;have b:=h3.k1;rw[<-e]at b;omega)) (λe=>e.elim (λe=>by have b:=h3.kc _ hc;rw[<-e]at b;omega) (λe=>by have b:=h3.k1;rw[<-e]at b;omega)),h2,hT,h4,h5,Nat.lt_of_lt_of_le h6 ft.size,h7⟩,ft.mono (λj z=>(h5 j).2 (z.elim (λe=>by have b:=h3.kc _ hc;rw[e];omega) (λe=>by have b:=h3.k1;rw[e];omega))),λi z=>.inl z⟩
theorem Dy(h:FrW p q A M S m w G)(hm:m<59000)(hn:p.n<=64)(hs:(S.cl (whoF k S.n)).st=2):
  Calls prog 20 #[.pointer (some ⟨A.fb,0,none⟩),.int .i64 k] w λe w'=>∃r,e=.returned (.bool r)/\r=(S.pick p.n M (whoF k S.n)).1/\Led (FrW p q A (S.pick p.n M (whoF k S.n)).2.1 (S.pick p.n M (whoF k S.n)).2.2 (m+100)) G w w':=by
 obtain⟨F,lv,kd,h1,h2,h3,h4,h5,h6,h7⟩:=h;have hc:whoF k S.n<S.n:=Nat.mod_lt _ (by have:=h3.n1;omega);have hcl:=h3.cl _ hc;have ok:=h3.ok _ hc;have hd:=ok.lt (.inr hs)
 have hop:(S.cl (whoF k S.n)).op=(S.cl (whoF k S.n)).ops[(S.cl (whoF k S.n)).done]:=by
  unfold CSt.op;rw[List.getD_eq_getElem?_getD,List.getElem?_eq_getElem hd];rfl
 have hoo:(S.cl (whoF k S.n)).op.ok:=by rw[hop];exact ok.ops _ (List.getElem_mem hd)
 unfold FSt.pick;rw[if_neg (by omega),if_pos hs];obtain⟨cnt,hcn,hpn⟩:=h3.pn _ hc;have kb:=h3.kc _ hc;have km:=h3.km _ hc;have k1:=h3.k1;have nbf:¬A.cb (whoF k S.n)=A.fb:=λe=>by rw[e]at kb;omega
 have ne:¬A.cb (whoF k S.n)=A.mb (whoF k S.n):=λe=>by rw[e]at kb;omega
 have nmf:¬A.mb (whoF k S.n)=A.fb:=λe=>by rw[e]at km;omega
 have nb:¬F (A.cb (whoF k S.n)):=λz=>by have:=h4 _ z;omega
 have nm:¬F (A.mb (whoF k S.n)):=λz=>by have:=h4 _ z;omega
 have nf:¬F A.fb:=λz=>by have:=h4 _ z;omega
 have tb:¬0=A.cb (whoF k S.n):=λe=>by rw[<-e]at kb;omega
 have tm:¬0=A.mb (whoF k S.n):=λe=>by rw[<-e]at km;omega
 have tf:¬0=A.fb:=λe=>by rw[<-e]at k1;omega
 refine gE h3.n1 h3.n8 h3.hd h3.cs hcl (by rw[hs];rfl) Fy (Q:=λr w'=>r=true/\Led (FrW p q A _ _ (m+100)) G w w') (λW f=>?_);have fz:∀W',Fr (λj=>j=A.cb (whoF k S.n)) W W'->Fr (λj=>j=A.cb (whoF k S.n)) w W':=λW' g=>f.none.trans g (λj z=>.inl z)
 have HC:∀W',Fr (λj=>j=A.cb (whoF k S.n)) W W'->Blk W' (A.cb (whoF k S.n)) 5 (clC (whoF k S.n) (.slice (A.oa (whoF k S.n)) (S.cl (whoF k S.n)).ops.length (A.oc (whoF k S.n))) (S.cl (whoF k S.n)).done (A.mb (whoF k S.n)) (A.cb (whoF k S.n)) 0)->Calls prog 149 #[.pointer (some ⟨A.cb (whoF k S.n),0,none⟩),.pointer (some ⟨A.fb,0,none⟩),((S.cl (whoF k S.n)).ops[(S.cl (whoF k S.n)).done]).val] W' λe w'=>e=.returned (M.ccall p.n (S.cl (whoF k S.n)).op (S.cl (whoF k S.n)).pin).1.val/\fZ p q (M.ccall p.n (S.cl (whoF k S.n)).op (S.cl (whoF k S.n)).pin).2.1 (m+100) F W' (A.mb (whoF k S.n)) cnt (M.ccall p.n (S.cl (whoF k S.n)).op (S.cl (whoF k S.n)).pin).2.2 w':=λW' g hb=>by
  rw[<-hop];have gf:=fz W' g;exact qw (h1.fro gf (λj z (e:j=_)=>nb (e▸z)) tb) hm hn h2 hoo hb (h3.hd.fr gf (λ(e:A.fb=_)=>nbf e.symm)) (hpn.fr gf (λ(e:A.mb _=_)=>ne e.symm)) (by omega) (λx=>by have:=ok.pin x;omega) ne nb nm nf (Nat.lt_of_lt_of_le h6 gf.size) tm
 have hD:=ze (i:=whoF k S.n) (base:=A.base) (L:=S.log) (la:=S.la.map A.cb) (pin':=(M.ccall p.n (S.cl (whoF k S.n)).op (S.cl (whoF k S.n)).pin).2.2) (m':=m+100)
  (λj z=>Nat.lt_of_lt_of_le (h1.lt j z) f.size) ((h3.op _ hc).keep f) hd (by have:=ok.len;omega) (by have:=h3.n8;omega) (hcl.fr f id) (h3.hd.fr f id) (am h3.lg f (λ_ _ z=>z)) (by have:=h3.ll;omega) (Nat.le_trans h3.bs f.size)
  ne nbf nmf nb nm nf (λj z=>by have e:=h3.ko _ hc j z;exact⟨λa=>by have:=h4 j a;omega,λa=>by rw[a]at e;omega,λa=>by rw[a]at e;omega,λa=>by rw[a]at e;omega⟩)
  (λj z=>by have e:=h3.kl j z;exact⟨λa=>by have:=h4 j a;omega,λa=>by rw[a]at e;omega,λa=>by rw[a]at e;omega,λa=>by rw[a]at e;omega⟩)
  (Nat.lt_of_lt_of_le hpn.lt f.size) (Nat.lt_of_lt_of_le h6 f.size) ⟨tb,tf,λj z e=>by have a:=h3.kl j z;rw[<-e]at a;omega⟩ HC
 refine hD.mono λe w' ⟨he,hp⟩=>⟨true,he,rfl,?_⟩
 obtain⟨F',cnt',lv',g1,g2,g3,g4,g5,g6,g7,g8,g9,g10⟩:=hp;have ft:Fr (λj=>F j\/j=A.mb (whoF k S.n)\/j=A.cb (whoF k S.n)\/j=A.fb\/lv.ownBlock=some j) w w':=f.none.trans g10 (λj z=>.inl z);have fsz:=f.size;have lvl:∀j,lv.ownBlock=some j->j<w.heap.size:=λj z=>by rcases World.ownsRow.lt h3.lg j z with⟨_,c⟩;exact c
 have hkd:∃kd':Nat->Nat,∀j,(F' j->kd' j=3)/\(lv'.ownBlock=some j->kd' j=2)/\(¬F' j->¬lv'.ownBlock=some j->kd' j=kd j):=by
  classical
  refine⟨λj=>if F' j then 3 else if lv'.ownBlock=some j then 2 else kd j,λj=>⟨λa=>if_pos a,λa=>?_,λa b=>?_⟩⟩
  .show(if F' j then 3 else if lv'.ownBlock=some j then 2 else kd j)=2
   rw[if_neg (λz=>g9 j z a),if_pos a]
  .show(if F' j then 3 else if lv'.ownBlock=some j then 2 else kd j)=kd j
   rw[if_neg a,if_neg b]
 obtain⟨kd',hk'⟩:=hkd
 have hF:∀j,j<w.heap.size->F' j->kd j=3:=λj a b=>by
  rcases g2 j b with z|z
  .exact h4 j z
  .omega
 have hO:∀j,j<w.heap.size->lv'.ownBlock=some j->kd j=2:=λj a b=>by
  rcases g8 j b with z|z
  .exact h3.kl j z
  .omega
 have hk:∀j,j<w.heap.size->¬kd j=2->¬kd j=3->kd' j=kd j:=λj a b c=>(hk' j).2.2 (λz=>c (hF j a z)) (λz=>b (hO j a z))
 have hlt:∀j,¬kd' j=0->j<w'.heap.size:=λj z=>by
  by_cases a:F' j
  .exact g1.lt j a
  .by_cases b:lv'.ownBlock=some j
   .rcases World.ownsRow.lt g7 j b with⟨_,c⟩;exact c
   .rw[(hk' j).2.2 a b]at z
    exact Nat.lt_of_lt_of_le (h3.lt j z) ft.size
 have hT:=h3.turn hc (show m<=m+100 by omega) (la':=S.la) (lv':=lv') (kd':=kd') (log':=S.log++[⟨whoF k S.n,(S.cl (whoF k S.n)).done,(S.cl (whoF k S.n)).op,(M.ccall p.n (S.cl (whoF k S.n)).op (S.cl (whoF k S.n)).pin).1⟩]) (C':={S.cl (whoF k S.n)with done:=(S.cl (whoF k S.n)).done+1,pin:=(M.ccall p.n (S.cl (whoF k S.n)).op (S.cl (whoF k S.n)).pin).2.2,st:=3}) ft
  (λj z=>by
   rcases z with z|z|z|z|z
   .exact .inr (.inr (.inl (h4 j z)))
   .exact .inr (.inr (.inr (.inr z)))
   .exact .inr (.inr (.inr (.inl z)))
   .exact .inl (z▸k1)
   .exact .inr (.inl (h3.kl j z)))
  g6 h3.lal g5 rfl ⟨cnt',by omega,g4⟩
  ⟨ok.len,ok.ops,hd,λz=>by dsimp only at z;omega,λx=>Nat.le_trans (wY p.n M _ _ m ok.pin x) (by omega),Nat.le_refl 3⟩
  (by rw[hop]at*;exact g7) (by rw[List.length_append];have:=h3.ll;show _+1<=_;omega) hk (λj z=>(hk' j).2.1 z) hlt
 refine⟨λj=>¬kd' j=0,⟨F',lv',kd',g1,by rw[AM.ccall_room];exact h2,hT,λj z=>(hk' j).1 z,λj=>Iff.rfl,Nat.lt_of_lt_of_le h6 ft.size,?_⟩,ft.mono (λj z=>(h5 j).2 ?_),λj z=>?_⟩
 .rw[hk _ h6 (by rw[h7];omega) (by rw[h7];omega)];exact h7
 .rcases z with z|z|z|z|z
  .rw[h4 j z];omega
  .rw[z];omega
  .rw[z];omega
  .rw[z];omega
  .rw[h3.kl j z];omega
 .by_cases a:j<w.heap.size
  .by_cases b:F' j
   .exact .inl ((h5 j).2 (by rw[hF j a b];omega))
   .by_cases c:lv'.ownBlock=some j
    .exact .inl ((h5 j).2 (by rw[hO j a c];omega))
    .have z':¬kd' j=0:=z
     rw[(hk' j).2.2 b c]at z';exact .inl ((h5 j).2 z')
  .exact .inr (by omega)
end
end
section
open Go.Maps Go.RowKit
def cQ(f:Nat->Nat):Nat->Nat
 |0=>0
 |n+1=>cQ f n+f n
theorem lE(f:Nat->Nat)(c v:Nat):∀n,cQ (upd f c v) n+(if c<n then f c else 0)=cQ f n+(if c<n then v else 0)
 |0=>by simp[cQ]
 |n+1=>by
  have ih:=lE f c v n
  show cQ (upd f c v) n+upd f c v n+_=cQ f n+f n+_
  by_cases e:n=c
  .subst e
   rw[upd_same,if_pos (by omega),if_pos (by omega)];rw[if_neg (by omega),if_neg (by omega)]at ih;omega
  .rw[ab _ _ e]
   by_cases h:c<n
   .rw[if_pos h,if_pos h]at ih
    rw[if_pos (by omega),if_pos (by omega)];omega
   .rw[if_neg h,if_neg h]at ih
    rw[if_neg (by omega),if_neg (by omega)];omega
theorem vS{f g:Nat->Nat}:∀{n:Nat},(∀i,i<n->f i<=g i)->cQ f n<=cQ g n
 |0,_=>Nat.le_refl _
 |n+1,h=>Nat.add_le_add (vS (λi hi=>h i (by omega))) (h n (by omega))
theorem lM{f g:Nat->Nat}:∀{n:Nat},(∀i,i<n->f i=g i)->cQ f n=cQ g n
 |0,_=>rfl
 |n+1,h=>by
  show cQ f n+f n=cQ g n+g n
  rw[lM (λi hi=>h i (by omega)),h n (by omega)]
def CSt.rem(C:CSt):Nat:=if C.st=0 then 0 else 3*(C.ops.length-C.done)+(if C.st=3 then 1 else 0)-(if C.st=2 then 1 else 0)
def FSt.rem(S:FSt):Nat:=cQ (λi=>(S.cl i).rem) S.n
def FSt.total(S:FSt):Nat:=cQ (λi=>(S.cl i).ops.length) S.n
def FSt.doneN(S:FSt):Nat:=cQ (λi=>(S.cl i).done) S.n
theorem uH{α:Type}(f:α->Nat)(cl:Nat->α)(c:Nat)(C:α):(λi=>f (upd cl c C i))=upd (λi=>f (cl i)) c (f C):=by
 funext i
 by_cases e:i=c
 .subst e;rw[upd_same,upd_same]
 .rw[ab _ _ e,ab _ _ e]
section
variable{S:FSt}{M:AM}{nf c m:Nat}
theorem FSt.pick_n(nf:Nat)(M:AM)(S:FSt)(c:Nat):(S.pick nf M c).2.2.n=S.n:=by
 unfold FSt.pick
 repeat' split
 all_goals rfl
theorem FSt.pick_ops(nf:Nat)(M:AM)(S:FSt)(c i:Nat):((S.pick nf M c).2.2.cl i).ops=(S.cl i).ops:=by
 have e:∀C:CSt,C.ops=(S.cl c).ops->(upd S.cl c C i).ops=(S.cl i).ops:=λC h=>by
  by_cases e:i=c
  .subst e;rw[upd_same];exact h
  .rw[ab _ _ e]
 unfold FSt.pick
 repeat' split
 .rfl
 .exact e _ rfl
 .exact e _ rfl
 .exact e _ rfl
 .rfl
theorem FSt.pick_done(hc:c<S.n)(h:S.log.length=S.doneN):(S.pick nf M c).2.2.log.length=(S.pick nf M c).2.2.doneN:=by
 have e:∀C:CSt,cQ (λi=>(upd S.cl c C i).done) S.n+(S.cl c).done=S.doneN+C.done:=λC=>by
  rw[uH CSt.done];have:=lE (λi=>(S.cl i).done) c C.done S.n;rw[if_pos hc,if_pos hc]at this;exact this
 unfold FSt.pick
 repeat' split
 .exact h
 .have:=e {S.cl c with st:=2}
  show S.log.length=cQ _ S.n
  simp only at this⊢;omega
 .have:=e {S.cl c with done:=(S.cl c).done+1,pin:=(M.ccall nf (S.cl c).op (S.cl c).pin).2.2,st:=3}
  show(S.log++[_]).length=cQ _ S.n
  rw[List.length_append];simp only[List.length_cons,List.length_nil]at this⊢;omega
 .have:=e {S.cl c with st:=go1 (S.cl c).done (S.cl c).ops.length}
  show S.log.length=cQ _ S.n
  simp only at this⊢;omega
 .exact h
theorem FSt.pick_rem(hc:c<S.n)(hok:(S.cl c).Ok m):((S.pick nf M c).1=false->(S.pick nf M c).2.2=S/\(S.pick nf M c).2.1=M)/\((S.pick nf M c).1=true->(S.pick nf M c).2.2.rem<S.rem):=by
 have e:∀C:CSt,C.rem<(S.cl c).rem->cQ (λi=>(upd S.cl c C i).rem) S.n<S.rem:=λC hl=>by
  rw[uH CSt.rem];have:=lE (λi=>(S.cl i).rem) c C.rem S.n;rw[if_pos hc,if_pos hc]at this
  show _<cQ _ S.n
  omega
 unfold FSt.pick
 repeat' split
 .exact⟨λ_=>⟨rfl,rfl⟩,λz=>by cases z⟩
 .next h1 _=>
  refine⟨λz=>(by cases z),λ_=>e _ ?_⟩;have:=hok.lt (.inl h1);unfold CSt.rem;simp only[h1];simp;omega
 .next h1 h2=>
  refine⟨λz=>(by cases z),λ_=>e _ ?_⟩;have:=hok.lt (.inr h2);unfold CSt.rem;simp only[h2];simp;omega
 .next h1 h2 h3=>
  refine⟨λz=>(by cases z),λ_=>e _ ?_⟩;have:=hok.dn;unfold CSt.rem go1;simp only[h3];by_cases hl:(S.cl c).done<(S.cl c).ops.length
  .simp[hl]
  .simp[hl]
 .exact⟨λ_=>⟨rfl,rfl⟩,λz=>by cases z⟩
end
end
end Go.Proofs.YtkjhnllcphidpaaGreatDoor
