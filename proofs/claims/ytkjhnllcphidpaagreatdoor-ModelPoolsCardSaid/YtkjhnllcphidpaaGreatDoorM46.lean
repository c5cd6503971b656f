/- Part 46. -/
import Derived.Test.YtkjhnllcphidpaaGreatDoorM44
import Derived.Shelf.SlSortCmp.NoneTotal
namespace Go.Proofs.YtkjhnllcphidpaaGreatDoor
set_option linter.all false
set_option maxHeartbeats 16000000
set_option maxRecDepth 100000
section
open Go.Proofs.Tryz Go.RowKit
def SlZ(w:World)(v:Value)(l:List Int):Prop:=SlC w 1 v l.length (l.map λx=>Value.int .i64 x)
theorem SlZ.at{w:World}{v:Value}{x:Int}{l:List Int}(h:SlZ w v (x::l)):∃b off c,v=.slice (some ⟨b,off,none⟩) (l.length+1) c/\l.length+1<=c/\c<=maxLen/\b<w.heap.size/\w.cell? ⟨b,off,none⟩=some (.int .i64 x):=by
 obtain⟨b,off,c,e,h1,h2,h3,h4⟩:=SlC.at h (k:=0) (by show 0<l.length+1;omega) (by omega);exact⟨b,off,c,e,h1,h2,h3,h4 0 _ rfl⟩
theorem SlZ.tail{w:World}{x:Int}{l:List Int}{b off c:Nat}(h:SlZ w (.slice (some ⟨b,off,none⟩) (l.length+1) c) (x::l)):(c=1->SlZ w (.slice (some ⟨b,off,none⟩) 0 0) l/\l=[])/\(¬c=1->SlZ w (.slice (some ⟨b,off+1,none⟩) l.length (c-1)) l):=by
 have hlt:=SlC.lt h b rfl;obtain⟨_,_,e,hc,hm⟩:=SlC.shape h;simp only[Value.slice.injEq]at e;obtain⟨_,_,rfl⟩:=e;simp only[List.length_cons]at hc;refine⟨λe=>?_,λe=>?_⟩
 .have e0:l=[]:=List.length_eq_zero_iff.1 (by omega)
  subst e0;exact⟨⟨_,_,rfl,rfl,by simp,by show 0<=0;omega,by unfold maxLen;omega,.inr ⟨b,off,rfl,hlt,λj u hj=>by simp at hj⟩⟩,rfl⟩
 .obtain⟨b',o',e1,h1⟩:=SlC.cut (lo:=1) (hi:=l.length+1) h (by omega) (Nat.le_refl _) rfl (by omega)
  simp only[Option.some.injEq,Addr.mk.injEq]at e1;obtain⟨rfl,rfl,_⟩:=e1
  have e2:(List.take ((l.length+1-1)*1) (List.drop (1*1) (List.map (λx=>Value.int .i64 x) (x::l))))=l.map λx=>Value.int .i64 x:=by
   simp;exact List.take_of_length_le (by rw[List.length_map];exact Nat.le_refl _)
  rw[e2,show l.length+1-1=l.length from by omega,show off+1*1=off+1 from by omega]at h1;exact h1
def qd:Adv (List Int) where
 miss:=λl _=>l
 access:=λl _ _=>l
 set:=λl _ _=>l
 victim:=λl _=>match l with
  |[]=>none
  |x::_=>if x<0 then none else some x.toNat
 aft:=λl _=>l.tail
 remove:=λl _=>l
def AR(lb:Nat)(w:World)(l:List Int)(F:Nat->Prop):Prop:=∃v,Blk w lb 1 (λ_=>v)/\SlZ w v l/\¬v.ownBlock=some lb/\∀i,F i↔i=lb\/v.ownBlock=some i
def cM(lb:Nat):Value:=.iface 194 (.pointer (some ⟨lb,0,none⟩))
section
variable{w w':World}{lb:Nat}{l:List Int}{F:Nat->Prop}
theorem AR.fr(h:AR lb w l F){G:Nat->Prop}(f:Fr G w w')(hG:∀i,F i->¬G i):AR lb w' l F:=by
 obtain⟨v,h1,h2,h3,h4⟩:=h;exact⟨v,h1.fr f (hG _ ((h4 _).2 (.inl rfl))),SlC.fr h2 f (λb q=>hG b ((h4 b).2 (.inr q))),h3,h4⟩
theorem AR.lt(h:AR lb w l F):∀i,F i->i<w.heap.size:=by
 obtain⟨v,h1,h2,h3,h4⟩:=h;intro i q;rcases(h4 i).1 q with rfl|q
 .exact h1.lt
 .exact SlC.lt h2 i q
theorem AR.tld(h:AR lb w l F):Tld (AR lb) l F w w:=⟨F,h,Fr.refl _ _,λi q=>.inl q⟩
theorem BV{id:Nat}:Calls prog 282 #[.pointer (some ⟨lb,0,none⟩),.int .u32 id] w λe w'=>e=.returned (.tuple #[])/\w=w':=by
 go_enter func282,ntmps282;go_wp2;go_returns;exact⟨rfl,rfl⟩
theorem jy{id k:Nat}:Calls prog 280 #[.pointer (some ⟨lb,0,none⟩),.int .i64 k,.int .u32 id] w λe w'=>e=.returned (.tuple #[])/\w=w':=by
 go_enter func280,ntmps280;go_wp2;go_returns;exact⟨rfl,rfl⟩
theorem tA{k:Nat}{b:Bool}:Calls prog 284 #[.pointer (some ⟨lb,0,none⟩),.int .i64 k,.bool b] w λe w'=>e=.returned (.tuple #[])/\w=w':=by
 go_enter func284,ntmps284;go_wp2;go_returns;exact⟨rfl,rfl⟩
theorem mV{k:Nat}:Calls prog 283 #[.pointer (some ⟨lb,0,none⟩),.int .i64 k] w λe w'=>e=.returned (.tuple #[])/\w=w':=by
 go_enter func283,ntmps283;go_wp2;go_returns;exact⟨rfl,rfl⟩
theorem vZ(h:AR lb w l F){id:Nat}:Calls prog 286 #[.pointer (some ⟨lb,0,none⟩),.int .u32 id] w λe w'=>
  (match qd.victim l id with
   |none=>∃x:Int,e=.returned (.tuple #[.int .i64 x,.bool false])
   |some a=>e=.returned (.tuple #[.int .i64 a,.bool true]))/\Tld (AR lb) (qd.aft l id) F w w':=by
 have h0:=h;obtain⟨v,h1,h2,h3,h4⟩:=h;have c0:w.cell? ⟨lb,0,none⟩=some v:=h1.cell (by omega);have z0:=h1.frozen 0;have lb0:=h1.lt
 cases l with
 |nil=>
  obtain⟨a,c,e,g1,g2⟩:=SlC.shape h2;subst e;have H0:=Hd h0
  show Calls _ _ _ _ λe w'=>(∃x:Int,e=.returned (.tuple #[.int .i64 x,.bool false]))/\Tld (AR lb) [] F w w'
  rw[show([]:List Int).length=0 from rfl]at c0;clear h0 h1 h2 h3 h4;go_enter func286,ntmps286;go_wp2;go_returns;exact⟨⟨0,rfl⟩,H0.out.tld⟩
 |cons x l=>
  obtain⟨b,off,c,e,g1,g2,g3,g4⟩:=h2.at;subst e;obtain⟨t1,t2⟩:=h2.tail;have hcb:¬lb=b:=λe=>h3 (by rw[e];rfl)
  have hcb2:¬b=lb:=λe=>h3 (by rw[<-e];rfl)
  have KW:Hid (∀nv:Value,(nv=.slice (some ⟨b,off,none⟩) 0 0/\c=1\/nv=.slice (some ⟨b,off+1,none⟩) l.length (c-1)/\¬c=1)->Tld (AR lb) l F w (w.setCell ⟨lb,0,none⟩ nv)):=λnv hv=>by
   have f:Fr (λi=>i=lb) w (w.setCell ⟨lb,0,none⟩ nv):=(Fr.refl (λi=>i=lb) w).setCell (p:=⟨lb,0,none⟩) (.inl rfl) _
   have hs:SlZ w nv l/\nv.ownBlock=some b:=by
    rcases hv with⟨rfl,q⟩|⟨rfl,q⟩
    .exact⟨(t1 q).1,rfl⟩
    .exact⟨t2 q,rfl⟩
   refine⟨F,⟨nv,(h1.set 0 nv).congr (λi hi=>?_),SlC.fr hs.1 f (λk q=>?_),λq=>?_,λi=>?_⟩,f.mono (λi q=>(h4 i).2 (.inl q)),λi q=>.inl q⟩
   .obtain rfl:i=0:=by omega
    rw[upd_same]
   .rw[hs.2]at q;cases q;exact hcb2
   .rw[hs.2]at q;cases q;exact hcb rfl
   .rw[h4 i,hs.2];exact Iff.rfl
  show Calls _ _ _ _ λe w'=>(match(if x<0 then none else some x.toNat:Option Nat)with
   |none=>∃x:Int,e=.returned (.tuple #[.int .i64 x,.bool false])
   |some a=>e=.returned (.tuple #[.int .i64 a,.bool true]))/\Tld (AR lb) l F w w'
  have hll:l.length+1<=9223372036854775807:=by unfold maxLen at g2;omega
  have HLL:=Hd hll;generalize l.length=n at*;clear h0 h1 h2 h3 h4 t1 t2 hll;unfold maxLen at g2;by_cases hx:x<0
  .rw[if_pos hx]
   have hd:decide (x<0)=true:=decide_eq_true hx;by_cases hc:c=1
   .subst hc
    obtain rfl:n=0:=by omega
    have HG:=Hd g2;clear g2;go_enter func286,ntmps286;go_wp2;go_returns;exact⟨⟨0,rfl⟩,KW.out _ (.inl ⟨by first|rfl|trivial,by first|rfl|trivial⟩)⟩
   .have hc2:1<c:=by omega
    have HG:=Hd g2;clear g2;go_enter func286,ntmps286;go_wp2;go_returns;exact⟨⟨0,rfl⟩,KW.out _ (.inr ⟨by first|rfl|(simp;done)|(congr 1<;>omega),hc⟩)⟩
  .rw[if_neg hx]
   have hd:decide (x<0)=false:=decide_eq_false hx;obtain⟨k,rfl⟩:=Int.eq_ofNat_of_zero_le (show 0<=x by omega);rw[show(k:Int).toNat=k from by omega];by_cases hc:c=1
   .subst hc
    obtain rfl:n=0:=by omega
    have HG:=Hd g2;clear g2;go_enter func286,ntmps286;go_wp2;go_returns;exact⟨rfl,KW.out _ (.inl ⟨by first|rfl|trivial,by first|rfl|trivial⟩)⟩
   .have hc2:1<c:=by omega
    have HG:=Hd g2;clear g2;go_enter func286,ntmps286;go_wp2;go_returns;exact⟨rfl,KW.out _ (.inr ⟨by first|rfl|(simp;done)|(congr 1<;>omega),hc⟩)⟩
theorem Fo{id b2:Nat}(h:AR lb w l F)(q2:w.cell? ⟨b2,0,none⟩=some (.int .u32 id))(q4:b2<w.heap.size):Calls prog 98 #[cM lb,.pointer (some ⟨b2,0,none⟩)] w λe w'=>e=.returned (.tuple #[])/\Tld (AR lb) l F w w':=by
 have HM:Hid (Calls _ _ _ _ _):=BV (lb:=lb) (w:=w) (id:=id);have HT:=Hd h.tld;unfold cM;clear h;go_enter func98,ntmps98
 go_wp2_with fail
 refine HM.out.mono ?_;rintro e w1⟨rfl,rfl⟩;go_wp2;go_returns;exact⟨rfl,HT.out⟩
theorem Fu{k id b1 b2:Nat}(h:AR lb w l F)(q1:w.cell? ⟨b1,0,none⟩=some (.int .i64 k))(q2:w.cell? ⟨b2,0,none⟩=some (.int .u32 id))(q3:b1<w.heap.size)(q4:b2<w.heap.size):Calls prog 100 #[cM lb,.pointer (some ⟨b1,0,none⟩),.pointer (some ⟨b2,0,none⟩)] w λe w'=>e=.returned (.tuple #[])/\Tld (AR lb) l F w w':=by
 have HM:Hid (Calls _ _ _ _ _):=jy (lb:=lb) (w:=w) (k:=k) (id:=id);have HT:=Hd h.tld;unfold cM;clear h;go_enter func100,ntmps100
 go_wp2_with fail
 refine HM.out.mono ?_;rintro e w1⟨rfl,rfl⟩;go_wp2;go_returns;exact⟨rfl,HT.out⟩
theorem Ex{k id b1 b2:Nat}(h:AR lb w l F)(q1:w.cell? ⟨b1,0,none⟩=some (.int .i64 k))(q2:w.cell? ⟨b2,0,none⟩=some (.int .u32 id))(q3:b1<w.heap.size)(q4:b2<w.heap.size):Calls prog 105 #[cM lb,.pointer (some ⟨b1,0,none⟩),.pointer (some ⟨b2,0,none⟩)] w λe w'=>e=.returned (.tuple #[])/\Tld (AR lb) l F w w':=by
 have HM:Hid (Calls _ _ _ _ _):=jy (lb:=lb) (w:=w) (k:=k) (id:=id);have HT:=Hd h.tld;unfold cM;clear h;go_enter func105,ntmps105
 go_wp2_with fail
 refine HM.out.mono ?_;rintro e w1⟨rfl,rfl⟩;go_wp2;go_returns;exact⟨rfl,HT.out⟩
theorem EM{k id b1 b2:Nat}(h:AR lb w l F)(q1:w.cell? ⟨b1,0,none⟩=some (.int .i64 k))(q2:w.cell? ⟨b2,0,none⟩=some (.int .u32 id))(q3:b1<w.heap.size)(q4:b2<w.heap.size):Calls prog 106 #[cM lb,.pointer (some ⟨b1,0,none⟩),.pointer (some ⟨b2,0,none⟩)] w λe w'=>e=.returned (.tuple #[])/\Tld (AR lb) l F w w':=by
 have HM:Hid (Calls _ _ _ _ _):=jy (lb:=lb) (w:=w) (k:=k) (id:=id);have HT:=Hd h.tld;unfold cM;clear h;go_enter func106,ntmps106
 go_wp2_with fail
 refine HM.out.mono ?_;rintro e w1⟨rfl,rfl⟩;go_wp2;go_returns;exact⟨rfl,HT.out⟩
theorem Fe{k b1:Nat}(h:AR lb w l F)(q1:w.cell? ⟨b1,0,none⟩=some (.int .i64 k))(q3:b1<w.heap.size):Calls prog 101 #[cM lb,.pointer (some ⟨b1,0,none⟩)] w λe w'=>e=.returned (.tuple #[])/\Tld (AR lb) l F w w':=by
 have HM:Hid (Calls _ _ _ _ _):=tA (lb:=lb) (w:=w) (k:=k) (b:=true);have HT:=Hd h.tld;unfold cM;clear h;go_enter func101,ntmps101
 go_wp2_with fail
 refine HM.out.mono ?_;rintro e w1⟨rfl,rfl⟩;go_wp2;go_returns;exact⟨rfl,HT.out⟩
theorem Eu{k b1:Nat}(h:AR lb w l F)(q1:w.cell? ⟨b1,0,none⟩=some (.int .i64 k))(q3:b1<w.heap.size):Calls prog 85 #[cM lb,.pointer (some ⟨b1,0,none⟩)] w λe w'=>e=.returned (.tuple #[])/\Tld (AR lb) l F w w':=by
 have HM:Hid (Calls _ _ _ _ _):=tA (lb:=lb) (w:=w) (k:=k) (b:=true);have HT:=Hd h.tld;unfold cM;clear h;go_enter func85,ntmps85
 go_wp2_with fail
 refine HM.out.mono ?_;rintro e w1⟨rfl,rfl⟩;go_wp2;go_returns;exact⟨rfl,HT.out⟩
theorem Fl{k b1:Nat}(h:AR lb w l F)(q1:w.cell? ⟨b1,0,none⟩=some (.int .i64 k))(q3:b1<w.heap.size):Calls prog 107 #[cM lb,.pointer (some ⟨b1,0,none⟩)] w λe w'=>e=.returned (.tuple #[])/\Tld (AR lb) l F w w':=by
 have HM:Hid (Calls _ _ _ _ _):=tA (lb:=lb) (w:=w) (k:=k) (b:=false);have HT:=Hd h.tld;unfold cM;clear h;go_enter func107,ntmps107
 go_wp2_with fail
 refine HM.out.mono ?_;rintro e w1⟨rfl,rfl⟩;go_wp2;go_returns;exact⟨rfl,HT.out⟩
theorem Fp{k b1:Nat}(h:AR lb w l F)(q1:w.cell? ⟨b1,0,none⟩=some (.int .i64 k))(q3:b1<w.heap.size):Calls prog 124 #[cM lb,.pointer (some ⟨b1,0,none⟩)] w λe w'=>e=.returned (.tuple #[])/\Tld (AR lb) l F w w':=by
 have HM:Hid (Calls _ _ _ _ _):=mV (lb:=lb) (w:=w) (k:=k);have HT:=Hd h.tld;unfold cM;clear h;go_enter func124,ntmps124
 go_wp2_with fail
 refine HM.out.mono ?_;rintro e w1⟨rfl,rfl⟩;go_wp2;go_returns;exact⟨rfl,HT.out⟩
theorem EY{k b1:Nat}(h:AR lb w l F)(q1:w.cell? ⟨b1,0,none⟩=some (.int .i64 k))(q3:b1<w.heap.size):Calls prog 109 #[cM lb,.pointer (some ⟨b1,0,none⟩)] w λe w'=>e=.returned (.tuple #[])/\Tld (AR lb) l F w w':=by
 have HM:Hid (Calls _ _ _ _ _):=mV (lb:=lb) (w:=w) (k:=k);have HT:=Hd h.tld;unfold cM;clear h;go_enter func109,ntmps109
 go_wp2_with fail
 refine HM.out.mono ?_;rintro e w1⟨rfl,rfl⟩;go_wp2;go_returns;exact⟨rfl,HT.out⟩
theorem DH{pb id:Nat}(h:AR lb w l F)(q1:w.cell? ⟨pb,1,none⟩=some (cM lb))(q2:pb<w.heap.size):Calls prog 123 #[.pointer (some ⟨pb,0,none⟩),.int .u32 id] w λe w'=>
  (match qd.victim l id with
   |none=>∃x:Int,e=.returned (.tuple #[.int .i64 x,.bool false])
   |some a=>e=.returned (.tuple #[.int .i64 a,.bool true]))/\Tld (AR lb) (qd.aft l id) F w w':=by
 have HV:=Hd (vZ h (id:=id));unfold cM at q1;clear h;generalize qd.aft l id=l2 at*;generalize qd.victim l id=v at*
 cases v with
 |none=>
  go_enter_defers func123,ntmps123
  go_wp2_with fail
  refine HV.out.mono ?_;rintro e w1⟨⟨x,rfl⟩,h1⟩;have H1:=Hd h1;clear h1;go_wp2;refine leaves_cons (f:=132) (args:=#[]) (by simp) (by simp[go_sem]) ?_;refine(ly _).mono ?_;rintro e u' w''⟨rfl,rfl,rfl⟩;simp[Leaves,settle,results,Tryz.results123,go_sem];exact H1.out
 |some a=>
  go_enter_defers func123,ntmps123
  go_wp2_with fail
  refine HV.out.mono ?_;rintro e w1⟨rfl,h1⟩;have H1:=Hd h1;clear h1;go_wp2;refine leaves_cons (f:=132) (args:=#[]) (by simp) (by simp[go_sem]) ?_;refine(ly _).mono ?_;rintro e u' w''⟨rfl,rfl,rfl⟩;simp[Leaves,settle,results,Tryz.results123,go_sem];exact H1.out
theorem Bs(pb lb n:Nat):aG qd (AR lb) pb (cM lb) n (λ_ _ _ _=>True) where
 fr:=λh f hG=>h.fr f hG
 lt:=λh=>h.lt
 more:=λ_ _=>trivial
 same:=λ_ _ _=>trivial
 miss:=λh _ _ _ _ _ q2 q4 _=>Fo h q2 q4
 acc:=λh _ _ _ _ _ _ q1 q2 q3 q4 _ _ hg=>by
  rcases hg with rfl|rfl|rfl
  .exact Fu h q1 q2 q3 q4
  .exact Ex h q1 q2 q3 q4
  .exact EM h q1 q2 q3 q4
 setT:=λh _ _ _ _ q1 q3 _ hg=>by
  rcases hg with rfl|rfl
  .exact Fe h q1 q3
  .exact Eu h q1 q3
 setF:=λh _ _ _ _ q1 q3 _=>Fl h q1 q3
 rem:=λh _ _ _ _ q1 q3 _ hg=>by
  rcases hg with rfl|rfl
  .exact Fp h q1 q3
  .exact EY h q1 q3
 ask:=λh _ _ _ _ _ _ q1 q2 _=>DH h q1 q2
 okMiss:=λ_ _ _ _=>trivial
 okNew:=λ_ _ _ _ _ _ _=>trivial
 okOld:=λ_ _ _ _ _=>trivial
 okSet:=λ_ _ _ _ _=>trivial
 okRem:=λ_ _ _ _=>trivial
 okYes:=λ_ _ _ _ _ _=>trivial
 okNo:=λ_ _ _ _ _=>trivial
end
end
section
open Go.Maps Go.Proofs.Tryz Go.RowKit
theorem SlC.take{w:World}{size m c k:Nat}{a:Option Addr}{news:List Value}(h:SlC w size (.slice a m c) m news)(hk:k<=m):SlC w size (.slice a k c) k (news.take (k*size)):=by
 obtain⟨a',c',e,h1,h2,h3,h4,h5⟩:=h;simp only[Value.slice.injEq]at e;obtain⟨rfl,_,rfl⟩:=e;refine⟨a,c,rfl,by rw[List.length_take,h1];exact Nat.min_eq_left (Nat.mul_le_mul_right _ hk),λu hu=>h2 u (List.mem_of_mem_take hu),by omega,h4,h5.imp id ?_⟩;rintro⟨b,off,e,hb,hc⟩;refine⟨b,off,e,hb,λj u hj=>hc j u ?_⟩;rw[List.getElem?_take]at hj
 split at hj
 .exact hj
 .cases hj
theorem SlZ.cut{w:World}{a:Option Addr}{c:Nat}{l:List Int}(h:SlZ w (.slice a l.length c) l)(k:Nat)(hk:k<=l.length):SlZ w (.slice a k c) (l.take k):=by
 have h2:=SlC.take h hk;rw[Nat.mul_one,<-List.map_take]at h2;unfold SlZ
 rwa [List.length_take,Nat.min_eq_left hk]
section
variable{p:PP}{q:Bool}{M:AM}{m:Nat}{w w0 w':World}
def Duo(R1 R2:World->(Nat->Prop)->Prop)(w0 w:World):Prop:=0<w0.heap.size/\∃F G,R1 w F/\R2 w G/\(∀i,F i->¬G i)/\(∀i,F i\/G i->w0.heap.size<=i)/\Fr NoF w0 w
structure Frm(R:World->(Nat->Prop)->Prop):Prop where
 lt:∀{w:World} {F:Nat->Prop},R w F->∀i,F i->i<w.heap.size
 fro:∀{w w':World} {F G:Nat->Prop},R w F->Fr G w w'->(∀i,F i->¬G i)->¬G 0->R w' F
theorem sH:Frm (an p q M m):=⟨an.lt,λh f hG ht=>an.fro h f hG ht⟩
theorem Duo.left{g:FuncId}{args:Array Value}{Q:Ending->Prop}{R1 R1' R2:World->(Nat->Prop)->Prop}(k2:Frm R2)(h:Duo R1 R2 w0 w)(hc:∀F,R1 w F->Calls prog g args w λe w'=>Q e/\Led R1' F w w'):Calls prog g args w λe w'=>Q e/\Duo R1' R2 w0 w':=by
 obtain⟨h0,F,G,h1,h2,h3,h4,h5⟩:=h;refine(hc F h1).mono ?_
 rintro e w'⟨k0,F',k1,k2',k3⟩
 refine⟨k0,h0,F',G,k1,k2.fro h2 k2' (λi g f=>h3 i f g) (λc=>by have:=h4 _ (.inl c);omega),λi a b=>?_,λi c=>?_,h5.trans k2' (λi c=>.inr (h4 i (.inl c)))⟩
 .rcases k3 i a with c|c
  .exact h3 i c b
  .have:=k2.lt h2 i b;omega
 .rcases c with c|c
  .rcases k3 i c with d|d
   .exact h4 i (.inl d)
   .have:=h5.size;omega
  .exact h4 i (.inr c)
theorem Duo.swap{R1 R2:World->(Nat->Prop)->Prop}(h:Duo R1 R2 w0 w):Duo R2 R1 w0 w:=by
 obtain⟨h0,F,G,h1,h2,h3,h4,h5⟩:=h;exact⟨h0,G,F,h2,h1,λi a b=>h3 i b a,λi c=>h4 i c.symm,h5⟩
theorem Duo.right{g:FuncId}{args:Array Value}{Q:Ending->Prop}{R1 R2 R2':World->(Nat->Prop)->Prop}(k1:Frm R1)(h:Duo R1 R2 w0 w)(hc:∀F,R2 w F->Calls prog g args w λe w'=>Q e/\Led R2' F w w'):Calls prog g args w λe w'=>Q e/\Duo R1 R2' w0 w':=
 (Duo.left k1 h.swap hc).mono λe w'⟨k0,k1⟩=>⟨k0,k1.swap⟩
theorem Duo.frm{R1 R2:World->(Nat->Prop)->Prop}(k1:Frm R1)(k2:Frm R2)(h:Duo R1 R2 w0 w)(f:Fr NoF w w'):Duo R1 R2 w0 w':=by
 obtain⟨h0,F,G,h1,h2,h3,h4,h5⟩:=h;exact⟨h0,F,G,k1.fro h1 f (λ_ _ q=>q) (λq=>q),k2.fro h2 f (λ_ _ q=>q) (λq=>q),h3,h4,h5.trans f (λ_ c=>c.elim)⟩
theorem Duo.fin{R1 R2:World->(Nat->Prop)->Prop}(h:Duo R1 R2 w0 w):Fr NoF w0 w:=by
 obtain⟨h0,F,G,h1,h2,h3,h4,h5⟩:=h;exact h5
theorem Duo.tab{R1 R2:World->(Nat->Prop)->Prop}(h:Duo R1 R2 w0 w):0<w.heap.size:=Nat.lt_of_lt_of_le h.1 h.fin.size
end
end
section
open Go.Maps Go.RowKit
structure EnF where
 c:Nat
 i:Nat
 o:OpF
 a:AnF
def EnF.cells(e:EnF):List Value:=[.int .i64 (e.c:Nat),.int .i64 (e.i:Nat),.int .i64 e.o.k,.int .u32 (e.o.id:Nat),.int .u64 (e.o.v:Nat),.int .i64 (e.a.e:Nat),.int .u32 (e.a.id:Nat),.int .u64 (e.a.v:Nat)]
def Gt(l:List EnF):List Value:=l.flatMap EnF.cells
abbrev EQ(w:World)(base:Nat)(lv:Value)(L:List EnF):Prop:=w.ownsRow base 79 8 lv L.length (Gt L)
def opC(o:OpF):List Value:=[.int .i64 o.k,.int .u32 (o.id:Nat),.int .u64 (o.v:Nat)]
def opsC(l:List OpF):List Value:=l.flatMap opC
theorem vi(l:List OpF){k:Nat}(hk:k<l.length):(opsC l)[k*3]?=some (.int .i64 l[k].k)/\(opsC l)[k*3+1]?=some (.int .u32 (l[k].id:Nat))/\(opsC l)[k*3+2]?=some (.int .u64 (l[k].v:Nat)):=by
 induction l generalizing k with
 |nil=>simp at hk
 |cons x l ih=>
  cases k with
  |zero=>exact⟨rfl,rfl,rfl⟩
  |succ k=>
   obtain⟨q0,q1,q2⟩:=ih (k:=k) (by simpa using hk);have e:∀j,(opsC (x::l))[j+3]?=(opsC l)[j]?:=λj=>by simp[opsC,opC]
   rw[show(k+1)*3=k*3+3 by omega,e,show k*3+3+1=k*3+1+3 by omega,e,show k*3+3+2=k*3+2+3 by omega,e];exact⟨q0,q1,q2⟩
def Fg(n:Nat)(cb:Nat->Nat):List Value:=(List.range n).map λi=>.pointer (some ⟨cb i,0,none⟩)
end
section
open Go.Lib Go.Maps Go.Proofs.Tryz Go.RowKit Go.Shelf
open Go.Sort hiding Below
def Tryz.sortIn_ren:Go.Shelf.Ren:=⟨fun|6=>112|15=>128|14=>127|28=>141|29=>142|20=>133|21=>134|22=>135|23=>136|24=>137|25=>138|26=>139|27=>140|46=>144|47=>145|48=>146|49=>147|50=>148|57=>151|n=>n,fun|22=>24|24=>3|25=>233|3=>3|39=>247|0=>0|53=>42|55=>25|4=>4|46=>251|45=>250|50=>226|5=>5|9=>9|66=>256|70=>260|76=>263|77=>264|n=>n,fun|n=>n⟩
theorem Tryz.sortIn:Go.Proofs.SlLaysF.n6 prog Tryz.sortIn_ren:={
 mixed:=by kernel_rfl,
 f6:=⟨Tryz.f112.name,by decide,func112.trans (congrArg some (by kernel_rfl))⟩,
 f14:=⟨Tryz.f127.name,by decide,func127.trans (congrArg some (by kernel_rfl))⟩,
 f15:=func128.trans (congrArg some (by kernel_rfl)),
 f20:=⟨Tryz.f133.name,by decide,func133.trans (congrArg some (by kernel_rfl))⟩,
 f21:=⟨Tryz.f134.name,by decide,func134.trans (congrArg some (by kernel_rfl))⟩,
 f22:=⟨Tryz.f135.name,by decide,func135.trans (congrArg some (by kernel_rfl))⟩,
 f23:=⟨Tryz.f136.name,by decide,func136.trans (congrArg some (by kernel_rfl))⟩,
 f24:=⟨Tryz.f137.name,by decide,func137.trans (congrArg some (by kernel_rfl))⟩,
 f25:=⟨Tryz.f138.name,by decide,func138.trans (congrArg some (by kernel_rfl))⟩,
 f26:=⟨Tryz.f139.name,by decide,func139.trans (congrArg some (by kernel_rfl))⟩,
 f27:=⟨Tryz.f140.name,by decide,func140.trans (congrArg some (by kernel_rfl))⟩,
 f28:=func141.trans (congrArg some (by kernel_rfl)),
 f29:=func142.trans (congrArg some (by kernel_rfl)),
 f46:=⟨Tryz.f144.name,by decide,func144.trans (congrArg some (by kernel_rfl))⟩,
 f47:=func145.trans (congrArg some (by kernel_rfl)),
 f48:=func146.trans (congrArg some (by kernel_rfl)),
 f49:=⟨Tryz.f147.name,by decide,func147.trans (congrArg some (by kernel_rfl))⟩,
 f50:=⟨Tryz.f148.name,by decide,func148.trans (congrArg some (by kernel_rfl))⟩,
 f57:=⟨Tryz.f151.name,by decide,func151.trans (congrArg some (by kernel_rfl))⟩,
 t0:=underlying0,
 a0:=Tryz.isAgg0,
 z0:=Tryz.sizeOf0,
 v0:=Tryz.zeroValue0,
 t3:=underlying3,
 a3:=Tryz.isAgg3,
 z3:=Tryz.sizeOf3,
 v3:=Tryz.zeroValue3,
 t4:=underlying4,
 a4:=Tryz.isAgg4,
 z4:=Tryz.sizeOf4,
 v4:=Tryz.zeroValue4,
 t5:=underlying5,
 a5:=Tryz.isAgg5,
 z5:=Tryz.sizeOf5,
 v5:=Tryz.zeroValue5,
 t9:=underlying9,
 a9:=Tryz.isAgg9,
 z9:=Tryz.sizeOf9,
 v9:=Tryz.zeroValue9,
 t22:=underlying24,
 a22:=Tryz.isAgg24,
 z22:=Tryz.sizeOf24,
 v22:=Tryz.zeroValue24,
 a24:=Tryz.isAgg3,
 z24:=Tryz.sizeOf3,
 t25:=underlying233,
 a25:=Tryz.isAgg233,
 z25:=Tryz.sizeOf233,
 v25:=Tryz.zeroValue233,
 t39:=underlying247,
 a39:=Tryz.isAgg247,
 z39:=Tryz.sizeOf247,
 v39:=Tryz.zeroValue247,
 t45:=underlying250,
 a45:=Tryz.isAgg250,
 z45:=Tryz.sizeOf250,
 v45:=Tryz.zeroValue250,
 t46:=underlying251,
 a46:=Tryz.isAgg251,
 z46:=Tryz.sizeOf251,
 v46:=Tryz.zeroValue251,
 t50:=underlying226,
 a50:=Tryz.isAgg226,
 z50:=Tryz.sizeOf226,
 v50:=Tryz.zeroValue226,
 t53:=underlying42,
 a53:=Tryz.isAgg42,
 z53:=Tryz.sizeOf42,
 v53:=Tryz.zeroValue42,
 t55:=underlying25,
 a55:=Tryz.isAgg25,
 z55:=Tryz.sizeOf25,
 v55:=Tryz.zeroValue25,
 t66:=underlying256,
 a66:=Tryz.isAgg256,
 z66:=Tryz.sizeOf256,
 v66:=Tryz.zeroValue256,
 t70:=underlying260,
 a70:=Tryz.isAgg260,
 z70:=Tryz.sizeOf260,
 v70:=Tryz.zeroValue260,
 t76:=underlying263,
 a76:=Tryz.isAgg263,
 z76:=Tryz.sizeOf263,
 v76:=Tryz.zeroValue263,
 t77:=underlying264,
 a77:=Tryz.isAgg264,
 z77:=Tryz.sizeOf264,
 v77:=Tryz.zeroValue264}
def gN{n:Nat}:(l:List Nat)->(∀x∈l,x<n)->List (Fin n)
 |[],_=>[]
 |x::l,h=>⟨x,h x (List.mem_cons_self ..)⟩::gN l (λy hy=>h y (List.mem_cons_of_mem _ hy))
theorem iK{n:Nat}:∀(l:List Nat) (h:∀x∈l,x<n),(gN l h).map (λx=>x.val)=l
 |[],_=>rfl
 |x::l,h=>by
  show x::(gN l _).map _=x::l
  rw[iK l]
theorem i5{n:Nat}(l:List Nat)(h:∀x∈l,x<n):(gN l h).length=l.length:=by
 have:=congrArg List.length (iK l h)
 rwa [List.length_map]at this
def fx{n:Nat}(x:Fin n):Value:=.int .i64 (x.val:Int)
theorem Gi{n:Nat}:OneCell (fx (n:=n)):=λx=>rfl
section
variable{W W':World}{n:Nat}[Inhabited (Fin n)]
theorem lZ{blk m:Nat}{d:Array (Fin n)}{os:Array Obj}:Fr (λi=>i=blk) W (sortWorld fx W blk 0 m d os):=by
 refine⟨rfl,rfl,rfl,?_,λk hk hF=>?_⟩
 .show W.heap.size<=((putRow fx (Go.Sort.ahead W m) blk 0 d).heap++os).size
  rw[Array.size_append];have:(putRow fx (Go.Sort.ahead W m) blk 0 d).heap.size=W.heap.size:=by simp[putRow,mapBlock,Go.Sort.ahead]
  omega
 .have hz:(putRow fx (Go.Sort.ahead W m) blk 0 d).heap.size=W.heap.size:=by simp[putRow,mapBlock,Go.Sort.ahead]
  have e1:(sortWorld fx W blk 0 m d os).heap[k]?=(putRow fx (Go.Sort.ahead W m) blk 0 d).heap[k]?:=by
   show((putRow fx (Go.Sort.ahead W m) blk 0 d).heap++os)[k]?=_
   rw[Array.getElem?_append_left (by omega)]
  rw[e1]
  show(W.heap.modify blk _)[k]?=_
  rw[Array.getElem?_modify,if_neg (λq=>hF q.symm)]
theorem Do{base g cap:Nat}{l:List Nat}(hmem:∀x∈l,x<n)(h:OwK .i64 base 3 W (.slice (some ⟨g,0,none⟩) l.length cap) l):Holds fx W g 0 (gN l hmem).toArray:=by
 intro j hj;have hs:(gN l hmem).toArray.size=l.length:=by rw[List.size_toArray,i5]
 have hjl:j<l.length:=by omega
 obtain⟨hl,h2⟩:=h;rcases h2 with⟨h2,_⟩|⟨g',cap',cur,e,hg,hh,h3,h4,h5,h6⟩
 .cases h2
 .simp only[Value.slice.injEq,Option.some.injEq,Addr.mk.injEq]at e
  obtain⟨⟨rfl,_⟩,_,rfl⟩:=e
  have hc:cur[j]?=some (.int .i64 (l[j]:Nat)):=by
   have hq:(cur.toList.take (l.length*1))[j]?=some (.int .i64 (l[j]:Nat)):=by rw[h6];simp[hjl]
   rw[List.getElem?_take,if_pos (by omega)]at hq;simpa using hq
  have hv:fx ((gN l hmem).toArray[j]!)=.int .i64 (l[j]:Nat):=by
   rw[getElem!_pos (gN l hmem).toArray j hj];unfold fx;have e2:((gN l hmem).map (λx=>x.val))[j]?=l[j]?:=by rw[iK]
   have hj2:j<(gN l hmem).length:=by rw[i5];exact hjl
   rw[List.getElem?_map,List.getElem?_eq_getElem hj2,List.getElem?_eq_getElem hjl]at e2;simp at e2;simp[e2]
  rw[hv];constructor
  .simp[World.cell?,hh,hc]
  .simp[World.frozen?,hh]
end
section
variable{p:PP}{f:Nat->FrS}
theorem jd(x y:Nat):cmpZ x y<0↔x<y:=by
 unfold cmpZ
 split
 .constructor
  .intro _;omega
  .intro _;omega
 .split
  .constructor
   .intro q;omega
   .intro q;omega
  .constructor
   .intro q;omega
   .intro q;omega
theorem Gq(n:Nat):SWO (ltOf λx y:Fin n=>cmpZ (f x.val).id (f y.val).id) where
 irrefl x:=by unfold ltOf;rw[decide_eq_false_iff_not,jd];omega
 trans x y z h1 h2:=by unfold ltOf at*;rw[decide_eq_true_eq,jd]at*;omega
 ntrans x y z h1 h2:=by unfold ltOf at*;rw[decide_eq_false_iff_not,jd]at*;omega
theorem yZ(bx base:Nat):oy p f bx base:=by
 intro W v l ho hbx hmem hll hb hbl hM hown htb;obtain⟨pl,E,I,sc,m,hM⟩:=hM;have hbase:=ho.base;have h0:=ho;obtain⟨hl,h2⟩:=ho;rcases h2 with⟨rfl,hz⟩|⟨g,cap,cur,rfl,hg,hh,h3,h4,h5,h6⟩
 .have hl0:l=[]:=List.length_eq_zero_iff.1 hz
  subst hl0;have hS:=AnyF.slices_SortFunc_none (P:=prog) (ρ:=Tryz.sortIn_ren) {Tryz.sortIn with} none 0 (.func (.func 113) #[] #[.pointer (some ⟨bx,0,none⟩)]) W;change Calls prog 112 _ _ _ at hS;refine hS.mono ?_;rintro e w'⟨rfl,rfl⟩;exact⟨rfl,[],List.Perm.refl _,λi j hi=>absurd hi (Nat.not_lt_zero i),SlK.nil _ _,Fr.refl _ _⟩
 .have hn:=hM.hn
  haveI:Inhabited (Fin p.n):=⟨⟨0,hn.1⟩⟩
  have hH:=Do hmem h0;have hgl:=(World.ownsRow.lt h0 g rfl).2;have hgb:=hbase g rfl;have hsz:(gN l hmem).toArray.size=l.length:=by rw[List.size_toArray,i5]
  have hcmp:CmpLays1 prog 113 #[.pointer (some ⟨bx,0,none⟩)] fx (λx y:Fin p.n=>cmpZ (f x.val).id (f y.val).id) g 0 (gN l hmem).toArray.size W:=by
   intro k os dk hdk x y;have fs:Fr (λi=>i=g) W (sortWorld fx W g 0 k dk os):=lZ;have hM2:=hM.fro fs (λi q e=>by have:=hown i q;omega) (λe=>by have h9:0=g:=e;omega);have hb2:(sortWorld fx W g 0 k dk os).cell? ⟨bx,0,none⟩=some p.ptr:=by rw[fs.cell (p:=⟨bx,0,none⟩) hbl (by show¬bx=g;omega)];exact hb
   refine(s5 hM2 x.isLt y.isLt hb2 (Nat.lt_of_lt_of_le hbl fs.size)).mono ?_;rintro e w'⟨he,q,rfl⟩;exact⟨he,q,#[],by rw[grow_empty]⟩
  have hS:=Any.slices_SortFunc Tryz.sortIn fx Gi (λx y:Fin p.n=>cmpZ (f x.val).id (f y.val).id) (Gq p.n) 113 #[.pointer (some ⟨bx,0,none⟩)] g 0 cap (gN l hmem).toArray W (enters_of func113 (by kernel_rfl) rfl) hcmp hH hgl (by omega);rw[hsz]at hS;change Calls prog 112 _ _ _ at hS;refine hS.mono ?_;rintro e w'⟨rfl,d',k,os,⟨p1,p2,p3⟩,hsd,rfl⟩;have hs':d'.size=l.length:=by rw[p1,hsz]
  have hH':=holds_sortWorld fx W g 0 k (gN l hmem).toArray d' os hgl hH p1;have e1:(d'.extract 0 l.length).toList=d'.toList:=by rw[<-hs'];simp
  have e2:((gN l hmem).toArray.extract 0 l.length).toList=gN l hmem:=by
   have:=i5 l hmem;simp[List.take_of_length_le,this]
  rw[e1,e2]at p3
  have hp:(d'.toList.map (λx=>x.val)).Perm l:=by
   have:=p3.map (λx=>x.val)
   rwa [iK]at this
  have hlen:(d'.toList.map (λx=>x.val)).length=l.length:=hp.length_eq
  have hat:∀i (hi:i<(d'.toList.map (λx=>x.val)).length),(d'.toList.map (λx=>x.val))[i]=(d'[i]!).val:=λi hi=>by
   rw[getElem!_pos d' i (by rw[hs'];omega)];simp
  refine⟨rfl,_,hp,λi j hi hj hij=>?_,?_,lZ.mono (λi q=>by rw[q];rfl)⟩
  .have:=hsd i j (Nat.zero_le _) hij (by omega)
   unfold ltOf at this;rw[decide_eq_false_iff_not,jd]at this;rw[hat i hi,hat j hj];exact this
  .refine⟨some ⟨g,0,none⟩,cap,by rw[hlen],by simp[hs'],λu hu=>?_,by rw[hlen];exact h3,h4,.inr ⟨g,0,rfl,Nat.lt_of_lt_of_le hgl lZ.size,λj u hj=>?_⟩⟩
   .obtain⟨y,_,rfl⟩:=List.mem_map.1 hu
    rfl
   .have hjl:j<d'.size:=by
     have:=(List.getElem?_eq_some_iff.1 hj).1;simpa using this
    rw[(hH' j hjl).1];simp[hjl]at hj;rw[<-hj];unfold fx;rw[getElem!_pos d' j hjl]
end
end
section
open Go.Maps Go.Proofs.Tryz Go.RowKit
section
variable{p:PP}{q:Bool}{M:AM}{m:Nat}{w:World}{F:Nat->Prop}
def CP(p:PP)(q:Bool)(M:AM)(m:Nat)(w:World)(F:Nat->Prop):Prop:=
 ∃(τ:Type) (P:Adv τ) (RR:World->τ->(Nat->Prop)->Prop) (ok:Nat->τ->(Nat->Nat)->(Nat->Bool)->Prop) (X:PS τ),aG P RR p.pb p.rv p.n ok/\PW RR ok p X m w F/\Abs p.n X M/\M.okA/\(q=true->X.sc=0/\kr P p.n ok)/\∀i,i<p.n->(X.f i).dirty=false
theorem CP.any(h:CP p q M m w F):an p q M m w F:=by
 obtain⟨τ,P,RR,ok,X,S,H,A,O,K,_⟩:=h;exact⟨τ,P,RR,ok,X,S,H,A,O,K⟩
theorem an.fa(h:an p q M m w F)(hm:m<60000)(hn:p.n<=64):Calls prog 48 #[p.ptr] w λe w'=>e=.returned (.int .i64 0)/\Led (CP p q M (m+100)) F w w':=by
 obtain⟨τ,P,RR,ok,X,S,H,A,O,K⟩:=h;refine(zu S H hm hn (yZ _ _)).mono ?_;rintro e w'⟨l,hp,_,he,hl⟩
 obtain⟨r1,r2,r3,r4⟩:=A.flushLE l (λk hk=>by
  obtain⟨k1,k2⟩:=i9.1 (hp.mem_iff.1 hk);refine⟨k1,λh0=>?_⟩;rw[A.inv.em k k1 h0]at k2
  cases k2)
 refine⟨by rw[he,r1];rfl,hl.mono (λF' h'=>⟨τ,P,RR,ok,_,S,h',r2,O,λhq=>⟨by rw[vO];exact(K hq).1,(K hq).2⟩,λi hi=>?_⟩)⟩
 cases e2:((X.flushL l).2.f i).dirty with
 |false=>rfl
 |true=>
  obtain⟨c1,c2⟩:=r4 i e2;exact(c2 (hp.mem_iff.2 (i9.2 ⟨hi,c1⟩))).elim
end
section
variable{p:PP}{q:Bool}{M:AM}{m:Nat}{w:World}{F:Nat->Prop}{o:OpF}
theorem mq(h:an p q M m w F)(hm:m<59000)(hn:p.n<=64)(ho:o.ok)(ht:0<w.heap.size)(hk:o.k=6):
  Calls prog 12 #[p.ptr,o.val] w λe w'=>e=.returned (⟨0,0,0⟩:AnF).val/\Led (an p q M (m+100)) F w w':=by
 obtain⟨k,pg,v⟩:=o;obtain⟨_,rfl,hA,b0,ke⟩:=b7 h ht k pg v;unfold OpF.val;simp only at hk;have KE:=Hd ke;have HA:=Hd hA;have B0:=Hd b0;have hid0:=ho.1;have hv0:=ho.2.1;clear h b0 hA ho ke;go_enter func12,ntmps12;subst hk
 go_wp2_with fail
 refine(HA.out.fa (by omega) hn).mono ?_;rintro e w1⟨rfl,hl1⟩;obtain⟨c1,c2,c3⟩:=KE.out _ _ w1 (hl1.mono (λF' h'=>CP.any h'));have HR:=Hd ((((c1.other (a:=⟨w.heap.size+1+1,0,none⟩) (by simp) (.int .i64 0)).set 0 (.int .i64 0)).set 1 (.int .u32 0)).set 2 (.int .u64 0));have HL:=Hd (c3 ((((w1.setCell ⟨w.heap.size+1+1,0,none⟩ (.int .i64 0)).setCell ⟨w.heap.size+1,0,none⟩ (.int .i64 0)).setCell ⟨w.heap.size+1,1,none⟩ (.int .u32 0)).setCell ⟨w.heap.size+1,2,none⟩ (.int .u64 0)) (by repeat(first|exact Fr.refl _ _|refine Fr.setCell ?_ (.inl (by first|exact .inl rfl|exact .inr rfl)) _)));obtain⟨a0,a1,a2,d0,d1,d2,z0,z1,z2,y0,y1,y2,l1,l2⟩:=ba c1 c2;clear c1 c2 c3 hl1
 go_wp2_with fail
 (try simp only[Exit.inBlock,Exit.then])
 refine bodyPost_ret (af Tryz.results12 _ _ HR.out rfl underlying47 rfl (by kernel_rfl)) rfl ?_;exact⟨rfl,HL.out⟩
end
section
variable{p:PP}{q:Bool}{M:AM}{m:Nat}{w:World}{F:Nat->Prop}{o:OpF}{b fb i d mb s cnt:Nat}{ov cv lv:Value}{la:Option Nat}{pin:Nat->Nat}
theorem yD(h:an p q M m w F)(hm:m<59000)(hn:p.n<=64)(ho:o.ok)(ht:0<w.heap.size):
  Calls prog 12 #[p.ptr,o.val] w λe w'=>e=.returned (M.call p.n o).1.val/\Led (an p q (M.call p.n o).2 (m+100)) F w w':=by
 unfold AM.call;by_cases h0:o.k=0
 .rw[if_pos h0];exact Ag h hm hn ho ht h0
 rw[if_neg h0];by_cases h1:o.k=1
 .rw[if_pos h1];exact tg h hm hn ho ht h1
 rw[if_neg h1];by_cases h2:o.k=2
 .rw[if_pos h2];exact tD h hm hn ho ht h2
 rw[if_neg h2];by_cases h3:o.k=3
 .rw[if_pos h3];exact vA h hm hn ho ht h3
 rw[if_neg h3];by_cases h4:o.k=4
 .rw[if_pos h4];exact sM h hm hn ho ht h4
 rw[if_neg h4];by_cases h5:o.k=5
 .rw[if_pos h5];exact tG h hm hn ho ht h5
 rw[if_neg h5];by_cases h6:o.k=6
 .rw[if_pos h6];exact mq h hm hn ho ht h6
 rw[if_neg h6];by_cases h7:o.k=7
 .rw[if_pos h7];exact pK h hm hn ho ht h7
 rw[if_neg h7];exact wj h hm hn ho ht (by omega)
end
end
end Go.Proofs.YtkjhnllcphidpaaGreatDoor
