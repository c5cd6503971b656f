/- Part 43. -/
import Derived.Test.YtkjhnllcphidpaaGreatDoorQ42
namespace Go.Proofs.YtkjhnllcphidpaaGreatDoor
set_option linter.all false
set_option maxHeartbeats 16000000
set_option maxRecDepth 100000
section
open Go.Proofs.Tryz Go.RowKit
def SlZ(w:World)(v:Value)(l:List Int):Prop:=SlC w 1 v l.length (l.map λx=>Value.int .i64 x)
theorem SlZ.at{w:World}{v:Value}{x:Int}{l:List Int}(h:SlZ w v (x::l)):∃b off c,v=.slice (some ⟨b,off,none⟩) (l.length+1) c/\l.length+1<=c/\c<=maxLen/\b<w.heap.size/\w.cell? ⟨b,off,none⟩=some (.int .i64 x):=by
 obtain⟨b,off,c,e,h1,h2,h3,h4⟩:=SlC.at h (k:=0) (by show 0<l.length+1;omega) (by omega);exact⟨b,off,c,e,h1,h2,h3,h4 0 _ rfl⟩
theorem SlZ.tail{w:World}{x:Int}{l:List Int}{b off c:Nat}(h:SlZ w (.slice (some ⟨b,off,none⟩) (l.length+1) c) (x::l)):(c=1->SlZ w (.slice (some ⟨b,off,none⟩) 0 0) l/\l=[])/\(¬c=1->SlZ w (.slice (some ⟨b,off+1,none⟩) l.length (c-1)) l):=by
 have hlt:=SlC.lt h b rfl;obtain⟨_,_,e,hc,hm⟩:=SlC.shape h;simp only[Value.slice.injEq]at e;obtain⟨_,_,rfl⟩:=e;simp only[List.length_cons]at hc;refine⟨λe=>?_,λe=>?_⟩
 .have e0:l=[]:=List.length_eq_zero_iff.1 (by omega)
  subst e0;exact⟨⟨_,_,rfl,rfl,by simp,by show 0<=0;omega,by unfold maxLen;omega,.inr ⟨b,off,rfl,hlt,λj u hj=>by simp at hj⟩⟩,rfl⟩
 .obtain⟨b',o',e1,h1⟩:=SlC.cut (lo:=1) (hi:=l.length+1) h (by omega) (Nat.le_refl _) rfl (by omega)
  simp only[Option.some.injEq,Addr.mk.injEq]at e1;obtain⟨rfl,rfl,_⟩:=e1
  have e2:(List.take ((l.length+1-1)*1) (List.drop (1*1) (List.map (λx=>Value.int .i64 x) (x::l))))=l.map λx=>Value.int .i64 x:=by
   simp;exact List.take_of_length_le (by rw[List.length_map];exact Nat.le_refl _)
  rw[e2,show l.length+1-1=l.length from by omega,show off+1*1=off+1 from by omega]at h1;exact h1
def pR:Adv (List Int) where
 miss:=λl _=>l
 access:=λl _ _=>l
 set:=λl _ _=>l
 victim:=λl _=>match l with
  |[]=>none
  |x::_=>if x<0 then none else some x.toNat
 aft:=λl _=>l.tail
 remove:=λl _=>l
def AR(lb:Nat)(w:World)(l:List Int)(F:Nat->Prop):Prop:=∃v,Blk w lb 1 (λ_=>v)/\SlZ w v l/\¬v.ownBlock=some lb/\∀i,F i↔i=lb\/v.ownBlock=some i
def cH(lb:Nat):Value:=.iface 194 (.pointer (some ⟨lb,0,none⟩))
section
variable{w w':World}{lb:Nat}{l:List Int}{F:Nat->Prop}
theorem AR.fr(h:AR lb w l F){G:Nat->Prop}(f:Fr G w w')(hG:∀i,F i->¬G i):AR lb w' l F:=by
 obtain⟨v,h1,h2,h3,h4⟩:=h;exact⟨v,h1.fr f (hG _ ((h4 _).2 (.inl rfl))),SlC.fr h2 f (λb q=>hG b ((h4 b).2 (.inr q))),h3,h4⟩
theorem AR.lt(h:AR lb w l F):∀i,F i->i<w.heap.size:=by
 obtain⟨v,h1,h2,h3,h4⟩:=h;intro i q;rcases(h4 i).1 q with rfl|q
 .exact h1.lt
 .exact SlC.lt h2 i q
theorem AR.tld(h:AR lb w l F):Tld (AR lb) l F w w:=⟨F,h,Fr.refl _ _,λi q=>.inl q⟩
theorem CM{id:Nat}:Calls prog 282 #[.pointer (some ⟨lb,0,none⟩),.int .u32 id] w λe w'=>e=.returned (.tuple #[])/\w=w':=by
 go_enter func282,ntmps282;go_wp2;go_returns;exact⟨rfl,rfl⟩
theorem jq{id k:Nat}:Calls prog 280 #[.pointer (some ⟨lb,0,none⟩),.int .i64 k,.int .u32 id] w λe w'=>e=.returned (.tuple #[])/\w=w':=by
 go_enter func280,ntmps280;go_wp2;go_returns;exact⟨rfl,rfl⟩
theorem ts{k:Nat}{b:Bool}:Calls prog 284 #[.pointer (some ⟨lb,0,none⟩),.int .i64 k,.bool b] w λe w'=>e=.returned (.tuple #[])/\w=w':=by
 go_enter func284,ntmps284;go_wp2;go_returns;exact⟨rfl,rfl⟩
theorem nS{k:Nat}:Calls prog 283 #[.pointer (some ⟨lb,0,none⟩),.int .i64 k] w λe w'=>e=.returned (.tuple #[])/\w=w':=by
 go_enter func283,ntmps283;go_wp2;go_returns;exact⟨rfl,rfl⟩
theorem xn(h:AR lb w l F){id:Nat}:Calls prog 286 #[.pointer (some ⟨lb,0,none⟩),.int .u32 id] w λe w'=>
  (match pR.victim l id with
   |none=>∃x:Int,e=.returned (.tuple #[.int .i64 x,.bool false])
   |some a=>e=.returned (.tuple #[.int .i64 a,.bool true]))/\Tld (AR lb) (pR.aft l id) F w w':=by
 have h0:=h;obtain⟨v,h1,h2,h3,h4⟩:=h;have c0:w.cell? ⟨lb,0,none⟩=some v:=h1.cell (by omega);have z0:=h1.frozen 0;have lb0:=h1.lt
 cases l with
 |nil=>
  obtain⟨a,c,e,g1,g2⟩:=SlC.shape h2;subst e;have H0:=Hd h0
  show Calls _ _ _ _ λe w'=>(∃x:Int,e=.returned (.tuple #[.int .i64 x,.bool false]))/\Tld (AR lb) [] F w w'
  rw[show([]:List Int).length=0 from rfl]at c0;clear h0 h1 h2 h3 h4;go_enter func286,ntmps286;go_wp2;go_returns;exact⟨⟨0,rfl⟩,H0.out.tld⟩
 |cons x l=>
  obtain⟨b,off,c,e,g1,g2,g3,g4⟩:=h2.at;subst e;obtain⟨t1,t2⟩:=h2.tail;have hcb:¬lb=b:=λe=>h3 (by rw[e];rfl)
  have hcb2:¬b=lb:=λe=>h3 (by rw[<-e];rfl)
  have KW:Hid (∀nv:Value,(nv=.slice (some ⟨b,off,none⟩) 0 0/\c=1\/nv=.slice (some ⟨b,off+1,none⟩) l.length (c-1)/\¬c=1)->Tld (AR lb) l F w (w.setCell ⟨lb,0,none⟩ nv)):=λnv hv=>by
   have f:Fr (λi=>i=lb) w (w.setCell ⟨lb,0,none⟩ nv):=(Fr.refl (λi=>i=lb) w).setCell (p:=⟨lb,0,none⟩) (.inl rfl) _
   have hs:SlZ w nv l/\nv.ownBlock=some b:=by
    rcases hv with⟨rfl,q⟩|⟨rfl,q⟩
    .exact⟨(t1 q).1,rfl⟩
    .exact⟨t2 q,rfl⟩
   refine⟨F,⟨nv,(h1.set 0 nv).congr (λi hi=>?_),SlC.fr hs.1 f (λk q=>?_),λq=>?_,λi=>?_⟩,f.mono (λi q=>(h4 i).2 (.inl q)),λi q=>.inl q⟩
   .obtain rfl:i=0:=by omega
    rw[upd_same]
   .rw[hs.2]at q;cases q;exact hcb2
   .rw[hs.2]at q;cases q;exact hcb rfl
   .rw[h4 i,hs.2];exact Iff.rfl
  show Calls _ _ _ _ λe w'=>(match(if x<0 then none else some x.toNat:Option Nat)with
   |none=>∃x:Int,e=.returned (.tuple #[.int .i64 x,.bool false])
   |some a=>e=.returned (.tuple #[.int .i64 a,.bool true]))/\Tld (AR lb) l F w w'
  have hll:l.length+1<=9223372036854775807:=by unfold maxLen at g2;omega
  have HLL:=Hd hll;generalize l.length=n at*;clear h0 h1 h2 h3 h4 t1 t2 hll;unfold maxLen at g2;by_cases hx:x<0
  .rw[if_pos hx]
   have hd:decide (x<0)=true:=decide_eq_true hx;by_cases hc:c=1
   .subst hc
    obtain rfl:n=0:=by omega
    have HG:=Hd g2;clear g2;go_enter func286,ntmps286;go_wp2;go_returns;exact⟨⟨0,rfl⟩,KW.out _ (.inl ⟨by first|rfl|trivial,by first|rfl|trivial⟩)⟩
   .have hc2:1<c:=by omega
    have HG:=Hd g2;clear g2;go_enter func286,ntmps286;go_wp2;go_returns;exact⟨⟨0,rfl⟩,KW.out _ (.inr ⟨by first|rfl|(simp;done)|(congr 1<;>omega),hc⟩)⟩
  .rw[if_neg hx]
   have hd:decide (x<0)=false:=decide_eq_false hx;obtain⟨k,rfl⟩:=Int.eq_ofNat_of_zero_le (show 0<=x by omega);rw[show(k:Int).toNat=k from by omega];by_cases hc:c=1
   .subst hc
    obtain rfl:n=0:=by omega
    have HG:=Hd g2;clear g2;go_enter func286,ntmps286;go_wp2;go_returns;exact⟨rfl,KW.out _ (.inl ⟨by first|rfl|trivial,by first|rfl|trivial⟩)⟩
   .have hc2:1<c:=by omega
    have HG:=Hd g2;clear g2;go_enter func286,ntmps286;go_wp2;go_returns;exact⟨rfl,KW.out _ (.inr ⟨by first|rfl|(simp;done)|(congr 1<;>omega),hc⟩)⟩
theorem Hf{id b2:Nat}(h:AR lb w l F)(q2:w.cell? ⟨b2,0,none⟩=some (.int .u32 id))(q4:b2<w.heap.size):Calls prog 98 #[cH lb,.pointer (some ⟨b2,0,none⟩)] w λe w'=>e=.returned (.tuple #[])/\Tld (AR lb) l F w w':=by
 have HM:Hid (Calls _ _ _ _ _):=CM (lb:=lb) (w:=w) (id:=id);have HT:=Hd h.tld;unfold cH;clear h;go_enter func98,ntmps98
 go_wp2_with fail
 refine HM.out.mono ?_;rintro e w1⟨rfl,rfl⟩;go_wp2;go_returns;exact⟨rfl,HT.out⟩
theorem Gj{k id b1 b2:Nat}(h:AR lb w l F)(q1:w.cell? ⟨b1,0,none⟩=some (.int .i64 k))(q2:w.cell? ⟨b2,0,none⟩=some (.int .u32 id))(q3:b1<w.heap.size)(q4:b2<w.heap.size):Calls prog 100 #[cH lb,.pointer (some ⟨b1,0,none⟩),.pointer (some ⟨b2,0,none⟩)] w λe w'=>e=.returned (.tuple #[])/\Tld (AR lb) l F w w':=by
 have HM:Hid (Calls _ _ _ _ _):=jq (lb:=lb) (w:=w) (k:=k) (id:=id);have HT:=Hd h.tld;unfold cH;clear h;go_enter func100,ntmps100
 go_wp2_with fail
 refine HM.out.mono ?_;rintro e w1⟨rfl,rfl⟩;go_wp2;go_returns;exact⟨rfl,HT.out⟩
theorem Gg{k id b1 b2:Nat}(h:AR lb w l F)(q1:w.cell? ⟨b1,0,none⟩=some (.int .i64 k))(q2:w.cell? ⟨b2,0,none⟩=some (.int .u32 id))(q3:b1<w.heap.size)(q4:b2<w.heap.size):Calls prog 105 #[cH lb,.pointer (some ⟨b1,0,none⟩),.pointer (some ⟨b2,0,none⟩)] w λe w'=>e=.returned (.tuple #[])/\Tld (AR lb) l F w w':=by
 have HM:Hid (Calls _ _ _ _ _):=jq (lb:=lb) (w:=w) (k:=k) (id:=id);have HT:=Hd h.tld;unfold cH;clear h;go_enter func105,ntmps105
 go_wp2_with fail
 refine HM.out.mono ?_;rintro e w1⟨rfl,rfl⟩;go_wp2;go_returns;exact⟨rfl,HT.out⟩
theorem Gz{k id b1 b2:Nat}(h:AR lb w l F)(q1:w.cell? ⟨b1,0,none⟩=some (.int .i64 k))(q2:w.cell? ⟨b2,0,none⟩=some (.int .u32 id))(q3:b1<w.heap.size)(q4:b2<w.heap.size):Calls prog 106 #[cH lb,.pointer (some ⟨b1,0,none⟩),.pointer (some ⟨b2,0,none⟩)] w λe w'=>e=.returned (.tuple #[])/\Tld (AR lb) l F w w':=by
 have HM:Hid (Calls _ _ _ _ _):=jq (lb:=lb) (w:=w) (k:=k) (id:=id);have HT:=Hd h.tld;unfold cH;clear h;go_enter func106,ntmps106
 go_wp2_with fail
 refine HM.out.mono ?_;rintro e w1⟨rfl,rfl⟩;go_wp2;go_returns;exact⟨rfl,HT.out⟩
theorem GP{k b1:Nat}(h:AR lb w l F)(q1:w.cell? ⟨b1,0,none⟩=some (.int .i64 k))(q3:b1<w.heap.size):Calls prog 101 #[cH lb,.pointer (some ⟨b1,0,none⟩)] w λe w'=>e=.returned (.tuple #[])/\Tld (AR lb) l F w w':=by
 have HM:Hid (Calls _ _ _ _ _):=ts (lb:=lb) (w:=w) (k:=k) (b:=true);have HT:=Hd h.tld;unfold cH;clear h;go_enter func101,ntmps101
 go_wp2_with fail
 refine HM.out.mono ?_;rintro e w1⟨rfl,rfl⟩;go_wp2;go_returns;exact⟨rfl,HT.out⟩
theorem Gd{k b1:Nat}(h:AR lb w l F)(q1:w.cell? ⟨b1,0,none⟩=some (.int .i64 k))(q3:b1<w.heap.size):Calls prog 85 #[cH lb,.pointer (some ⟨b1,0,none⟩)] w λe w'=>e=.returned (.tuple #[])/\Tld (AR lb) l F w w':=by
 have HM:Hid (Calls _ _ _ _ _):=ts (lb:=lb) (w:=w) (k:=k) (b:=true);have HT:=Hd h.tld;unfold cH;clear h;go_enter func85,ntmps85
 go_wp2_with fail
 refine HM.out.mono ?_;rintro e w1⟨rfl,rfl⟩;go_wp2;go_returns;exact⟨rfl,HT.out⟩
theorem GU{k b1:Nat}(h:AR lb w l F)(q1:w.cell? ⟨b1,0,none⟩=some (.int .i64 k))(q3:b1<w.heap.size):Calls prog 107 #[cH lb,.pointer (some ⟨b1,0,none⟩)] w λe w'=>e=.returned (.tuple #[])/\Tld (AR lb) l F w w':=by
 have HM:Hid (Calls _ _ _ _ _):=ts (lb:=lb) (w:=w) (k:=k) (b:=false);have HT:=Hd h.tld;unfold cH;clear h;go_enter func107,ntmps107
 go_wp2_with fail
 refine HM.out.mono ?_;rintro e w1⟨rfl,rfl⟩;go_wp2;go_returns;exact⟨rfl,HT.out⟩
theorem GF{k b1:Nat}(h:AR lb w l F)(q1:w.cell? ⟨b1,0,none⟩=some (.int .i64 k))(q3:b1<w.heap.size):Calls prog 124 #[cH lb,.pointer (some ⟨b1,0,none⟩)] w λe w'=>e=.returned (.tuple #[])/\Tld (AR lb) l F w w':=by
 have HM:Hid (Calls _ _ _ _ _):=nS (lb:=lb) (w:=w) (k:=k);have HT:=Hd h.tld;unfold cH;clear h;go_enter func124,ntmps124
 go_wp2_with fail
 refine HM.out.mono ?_;rintro e w1⟨rfl,rfl⟩;go_wp2;go_returns;exact⟨rfl,HT.out⟩
theorem Gc{k b1:Nat}(h:AR lb w l F)(q1:w.cell? ⟨b1,0,none⟩=some (.int .i64 k))(q3:b1<w.heap.size):Calls prog 109 #[cH lb,.pointer (some ⟨b1,0,none⟩)] w λe w'=>e=.returned (.tuple #[])/\Tld (AR lb) l F w w':=by
 have HM:Hid (Calls _ _ _ _ _):=nS (lb:=lb) (w:=w) (k:=k);have HT:=Hd h.tld;unfold cH;clear h;go_enter func109,ntmps109
 go_wp2_with fail
 refine HM.out.mono ?_;rintro e w1⟨rfl,rfl⟩;go_wp2;go_returns;exact⟨rfl,HT.out⟩
theorem EL{pb id:Nat}(h:AR lb w l F)(q1:w.cell? ⟨pb,1,none⟩=some (cH lb))(q2:pb<w.heap.size):Calls prog 123 #[.pointer (some ⟨pb,0,none⟩),.int .u32 id] w λe w'=>
  (match pR.victim l id with
   |none=>∃x:Int,e=.returned (.tuple #[.int .i64 x,.bool false])
   |some a=>e=.returned (.tuple #[.int .i64 a,.bool true]))/\Tld (AR lb) (pR.aft l id) F w w':=by
 have HV:=Hd (xn h (id:=id));unfold cH at q1;clear h;generalize pR.aft l id=l2 at*;generalize pR.victim l id=v at*
 cases v with
 |none=>
  go_enter_defers func123,ntmps123
  go_wp2_with fail
  refine HV.out.mono ?_;rintro e w1⟨⟨x,rfl⟩,h1⟩;have H1:=Hd h1;clear h1;go_wp2;refine leaves_cons (f:=132) (args:=#[]) (by simp) (by simp[go_sem]) ?_;refine(lX _).mono ?_;rintro e u' w''⟨rfl,rfl,rfl⟩;simp[Leaves,settle,results,Tryz.results123,go_sem];exact H1.out
 |some a=>
  go_enter_defers func123,ntmps123
  go_wp2_with fail
  refine HV.out.mono ?_;rintro e w1⟨rfl,h1⟩;have H1:=Hd h1;clear h1;go_wp2;refine leaves_cons (f:=132) (args:=#[]) (by simp) (by simp[go_sem]) ?_;refine(lX _).mono ?_;rintro e u' w''⟨rfl,rfl,rfl⟩;simp[Leaves,settle,results,Tryz.results123,go_sem];exact H1.out
theorem C6(pb lb n:Nat):aJ pR (AR lb) pb (cH lb) n (λ_ _ _ _=>True) where
 fr:=λh f hG=>h.fr f hG
 lt:=λh=>h.lt
 more:=λ_ _=>trivial
 same:=λ_ _ _=>trivial
 miss:=λh _ _ _ _ _ q2 q4 _=>Hf h q2 q4
 acc:=λh _ _ _ _ _ _ q1 q2 q3 q4 _ _ hg=>by
  rcases hg with rfl|rfl|rfl
  .exact Gj h q1 q2 q3 q4
  .exact Gg h q1 q2 q3 q4
  .exact Gz h q1 q2 q3 q4
 setT:=λh _ _ _ _ q1 q3 _ hg=>by
  rcases hg with rfl|rfl
  .exact GP h q1 q3
  .exact Gd h q1 q3
 setF:=λh _ _ _ _ q1 q3 _=>GU h q1 q3
 rem:=λh _ _ _ _ q1 q3 _ hg=>by
  rcases hg with rfl|rfl
  .exact GF h q1 q3
  .exact Gc h q1 q3
 ask:=λh _ _ _ _ _ _ q1 q2 _=>EL h q1 q2
 okMiss:=λ_ _ _ _=>trivial
 okNew:=λ_ _ _ _ _ _ _=>trivial
 okOld:=λ_ _ _ _ _=>trivial
 okSet:=λ_ _ _ _ _=>trivial
 okRem:=λ_ _ _ _=>trivial
 okYes:=λ_ _ _ _ _ _=>trivial
 okNo:=λ_ _ _ _ _=>trivial
end
end
section
open Go.Maps Go.Proofs.Tryz Go.RowKit
def FrX(p:PP)(q:Bool)(A:FA)(m0:Nat)(M:AM)(S:FSt)(w:World)(G:Nat->Prop):Prop:=
 FrW p q A M S (m0+100*S.log.length) w G/\S.log.length=S.doneN/\m0+100*S.total<58000
section
variable{p:PP}{q:Bool}{M:AM}{m0:Nat}{w w':World}{A:FA}{S:FSt}{G:Nat->Prop}
theorem FSt.pick_total(nf:Nat)(M:AM)(S:FSt)(c:Nat):(S.pick nf M c).2.2.total=S.total:=by
 unfold FSt.total;rw[FSt.pick_n];exact lM (λi _=>by rw[FSt.pick_ops])
theorem FrX.n(h:FrX p q A m0 M S w G):1<=S.n/\S.n<=8:=by
 obtain⟨⟨F,lv,kd,h1,h2,h3,h4,h5,h6,h7⟩,_⟩:=h;exact⟨h3.n1,h3.n8⟩
theorem FrX.ok(h:FrX p q A m0 M S w G):∀i,i<S.n->(S.cl i).Ok (m0+100*S.log.length):=by
 obtain⟨⟨F,lv,kd,h1,h2,h3,h4,h5,h6,h7⟩,_⟩:=h;exact h3.ok
theorem FrX.few(h:FrX p q A m0 M S w G):S.log.length<=S.total:=by
 rw[h.2.1];exact vS (λi hi=>(h.ok i hi).dn)
theorem FrX.fr0(h:FrX p q A m0 M S w G)(f:Fr NoF w w'):FrX p q A m0 M S w' G:=⟨h.1.fr0 f,h.2⟩
theorem FrX.lt(h:FrX p q A m0 M S w G):∀j,G j->j<w.heap.size:=by
 obtain⟨⟨F,lv,kd,h1,h2,h3,h4,h5,h6,h7⟩,_⟩:=h;exact λj z=>h3.lt j ((h5 j).1 z)
theorem wi(h:FrX p q A m0 M S w G)(hn:p.n<=64)(k:Int):
  Calls prog 20 #[.pointer (some ⟨A.fb,0,none⟩),.int .i64 k] w λe w'=>e=.returned (.bool (S.pick p.n M (whoF k S.n)).1)/\Led (FrX p q A m0 (S.pick p.n M (whoF k S.n)).2.1 (S.pick p.n M (whoF k S.n)).2.2) G w w':=by
 have hc:whoF k S.n<S.n:=Nat.mod_lt _ (by have:=h.n;omega);have hd:=FSt.pick_done (nf:=p.n) (M:=M) hc h.2.1;have ht:m0+100*(S.pick p.n M (whoF k S.n)).2.2.total<58000:=by rw[FSt.pick_total];exact h.2.2
 have hf:=h.few;have hm:m0+100*S.log.length<59000:=by have:=h.2.2;omega
 have hs:(S.cl (whoF k S.n)).st=0\/(S.cl (whoF k S.n)).st=1\/(S.cl (whoF k S.n)).st=2\/(S.cl (whoF k S.n)).st=3:=by have:=(h.ok _ hc).st;omega
 have hl:¬(S.cl (whoF k S.n)).st=2->(S.pick p.n M (whoF k S.n)).2.2.log=S.log:=λz=>by
  unfold FSt.pick
  repeat' split
  all_goals first|rfl|exact absurd ‹_› z
 rcases hs with hs|hs|hs|hs
 .have e1:S.pick p.n M (whoF k S.n)=(false,M,S):=by unfold FSt.pick;rw[if_neg (by omega),if_neg (by omega),if_neg (by omega)]
  rw[e1];exact(wH h.1 hs).mono λe w' ⟨he,f⟩=>⟨he,G,h.fr0 f,f.none,λi z=>.inl z⟩
 .exact(xw h.1 hs).mono λe w' ⟨r,he,hr,hw⟩=>⟨by rw[he,hr],hw.mono (λF' z=>⟨by rw[hl (by omega)];exact z,hd,ht⟩)⟩
 .refine(Dy h.1 hm hn hs).mono λe w' ⟨r,he,hr,hw⟩=>⟨by rw[he,hr],hw.mono (λF' z=>⟨?_,hd,ht⟩)⟩
  have e2:(S.pick p.n M (whoF k S.n)).2.2.log.length=S.log.length+1:=by
   unfold FSt.pick;rw[if_neg (by omega),if_pos hs];exact List.length_append
  rw[e2,show m0+100*(S.log.length+1)=m0+100*S.log.length+100 by omega];exact z
 .exact(yb h.1 hs).mono λe w' ⟨r,he,hr,hw⟩=>⟨by rw[he,hr],hw.mono (λF' z=>⟨by rw[hl (by omega)];exact z,hd,ht⟩)⟩
end
noncomputable def FSt.run(nf:Nat)(M:AM)(S:FSt):List Int->AM×FSt
 |[]=>(M,S)
 |k::l=>FSt.run nf (S.pick nf M (whoF k S.n)).2.1 (S.pick nf M (whoF k S.n)).2.2 l
theorem FSt.run_snoc(nf:Nat)(k:Int):∀(l:List Int) (M:AM) (S:FSt),FSt.run nf M S (l++[k])=((FSt.run nf M S l).2.pick nf (FSt.run nf M S l).1 (whoF k (FSt.run nf M S l).2.n)).2
 |[],M,S=>rfl
 |x::l,M,S=>FSt.run_snoc nf k l _ _
section
variable{p:PP}{q:Bool}{M:AM}{m0:Nat}{w w':World}{A:FA}{S:FSt}{G:Nat->Prop}
theorem Iu(h:FrX p q A m0 M S w G)(hn:p.n<=64){v:Value}{ks:List Int}(hv:SlZ w v ks)(hk:ks.length<=100000)(hG:∀j,v.ownBlock=some j->¬G j):
  Calls prog 29 #[.pointer (some ⟨A.fb,0,none⟩),v] w λe w'=>e=.returned (.tuple #[])/\Led (FrX p q A m0 (FSt.run p.n M S ks).1 (FSt.run p.n M S ks).2) G w w':=by
 obtain⟨a,c,rfl,h1,h2⟩:=SlC.shape hv;unfold maxLen at h2;have H:=Hd h;have HV:=Hd hv;clear h hv
 have hK:Hid (∀(j:Nat) W G',j<ks.length->FrX p q A m0 (FSt.run p.n M S (ks.take j)).1 (FSt.run p.n M S (ks.take j)).2 W G'->Fr G w W->(∀i,G' i->G i\/w.heap.size<=i)->∀x,ks[j]?=some x->Calls prog 20 #[.pointer (some ⟨A.fb,0,none⟩),.int .i64 x] W λe w'=>(∃r,e=.returned (.bool r))/\∃G'',FrX p q A m0 (FSt.run p.n M S (ks.take (j+1))).1 (FSt.run p.n M S (ks.take (j+1))).2 w' G''/\Fr G w w'/\(∀i,G'' i->G i\/w.heap.size<=i)):=Hd λj W G' hj h f hg x hx=>by
  refine(wi h hn x).mono λe w' ⟨he,G'',k1,k2,k3⟩=>⟨⟨_,he⟩,G'',?_,f.trans k2 (λi z=>hg i z),λi z=>?_⟩
  .have e:ks.take (j+1)=ks.take j++[x]:=by rw[List.take_add_one,hx];rfl
   rw[e,FSt.run_snoc];exact k1
  .rcases k3 i z with y|y
   .exact hg i y
   .have:=f.size;exact .inr (by omega)
 go_enter func29,ntmps29
 go_wp2_with fail
 go_loopw [8] (λs8 wr=>∃j:Nat,j<=ks.length/\s8=.int .i64 j/\∃G',FrX p q A m0 (FSt.run p.n M S (ks.take j)).1 (FSt.run p.n M S (ks.take j)).2 wr G'/\Fr G w wr/\(∀i,G' i->G i\/w.heap.size<=i)) (λs8 _=>ks.length-(intOf s8).toNat)
 case atStart=>exact⟨0,Nat.zero_le _,rfl,G,H.out,Fr.refl _ _,λi z=>.inl z⟩
 case round=>
  obtain⟨j,hj,rfl,G',h3,h4,h5⟩:=hrel;by_cases hl:j<ks.length
  .have hlI:(j:Int)<(ks.length:Int):=by omega
   obtain⟨b1,o1,c1,e1,-,-,hb1,g1⟩:=SlC.at HV.out hl (by omega);simp only[Value.slice.injEq]at e1;obtain⟨rfl,-,rfl⟩:=e1;have gx:=g1 j (.int .i64 ks[j]) (by simp[hl]);rw[<-h4.cell (p:=⟨b1,o1+j,none⟩) hb1 (hG b1 rfl)]at gx;have HP:=Hd (hK.out j wr G' hl h3 h4 h5 ks[j] (by simp[hl]));generalize ks[j]=x at*;clear g1 h3 h4 h5
   go_wp2_with fail
   refine HP.out.mono ?_;clear HP;rintro e w2⟨⟨r,rfl⟩,G2,k1,k2,k3⟩;have HK:=Hd (And.intro k1 (And.intro k2 k3));clear k1 k2 k3;go_wp2
   go_roundw
   case rel=>exact⟨j+1,by omega,by go_num,G2,HK.out⟩
   case measure=>simp[intOf];omega
  .obtain rfl:j=ks.length:=by omega
   have HX:Hid (Led (FrX p q A m0 (FSt.run p.n M S ks).1 (FSt.run p.n M S ks).2) G w wr):=Hd (by rw[List.take_length]at h3;exact⟨G',h3,h4,h5⟩);clear h3 h4 h5 hl;go_wp2;go_returns;exact⟨rfl,HX.out⟩
end
noncomputable def FSt.sweep(nf:Nat)(M:AM)(S:FSt):Nat->Bool×AM×FSt
 |0=>(false,M,S)
 |j+1=>((FSt.sweep nf M S j).1||((FSt.sweep nf M S j).2.2.pick nf (FSt.sweep nf M S j).2.1 j).1,((FSt.sweep nf M S j).2.2.pick nf (FSt.sweep nf M S j).2.1 j).2)
noncomputable def FSt.round(nf:Nat)(M:AM)(S:FSt):Bool×AM×FSt:=S.sweep nf M S.n
noncomputable def FSt.restG(nf:Nat):Nat->AM->FSt->AM×FSt
 |0,M,S=>(M,S)
 |g+1,M,S=>if(S.round nf M).1=true then FSt.restG nf g (S.round nf M).2.1 (S.round nf M).2.2 else(S.round nf M).2
noncomputable def FSt.rest(nf:Nat)(M:AM)(S:FSt):AM×FSt:=FSt.restG nf (S.rem+1) M S
theorem AX{j n:Nat}(h:j<n)(h8:n<=8):whoF (j:Int) n=j:=by
 unfold whoF;have e:((j:Int)%18446744073709551616).toNat=j:=by omega
 rw[e,Nat.mod_eq_of_lt h]
theorem FSt.sweep_n(nf:Nat)(M:AM)(S:FSt):∀j,(S.sweep nf M j).2.2.n=S.n
 |0=>rfl
 |j+1=>by
  show((FSt.sweep nf M S j).2.2.pick nf (FSt.sweep nf M S j).2.1 j).2.2.n=S.n
  rw[FSt.pick_n];exact FSt.sweep_n nf M S j
section
variable{p:PP}{q:Bool}{M:AM}{m0:Nat}{w w':World}{A:FA}{S:FSt}{G:Nat->Prop}
def lU(M:AM)(S:FSt)(r:Bool×AM×FSt):Prop:=(r.1=false->r.2=(M,S))/\(r.1=true->r.2.2.rem<S.rem)
theorem FSt.sweep_rem{nf m j:Nat}(hn:(S.sweep nf M j).2.2.n=S.n)(hj:j<S.n)(hok:((S.sweep nf M j).2.2.cl j).Ok m)(h:lU M S (S.sweep nf M j)):lU M S (S.sweep nf M (j+1)):=by
 obtain⟨a,b⟩:=FSt.pick_rem (nf:=nf) (M:=(S.sweep nf M j).2.1) (S:=(S.sweep nf M j).2.2) (c:=j) (by rw[hn];exact hj) hok;obtain⟨c,d⟩:=h;unfold lU
 show((_||_)=false->_)/\((_||_)=true->_)
 cases e1:(S.sweep nf M j).1<;>cases e2:((S.sweep nf M j).2.2.pick nf (S.sweep nf M j).2.1 j).1
 .have c:=c e1
  have a:=a e2;refine⟨λ_=>?_,λz=>by cases z⟩
  show((S.sweep nf M j).2.2.pick nf (S.sweep nf M j).2.1 j).2=_
  rw[<-c];exact Prod.ext a.2 a.1
 .have c:=c e1
  have b:=b e2;refine⟨(λz=>by cases z),λ_=>?_⟩
  show((S.sweep nf M j).2.2.pick nf (S.sweep nf M j).2.1 j).2.2.rem<_
  have e3:(S.sweep nf M j).2.2=S:=by rw[c]
  have e4:=congrArg FSt.rem e3;omega
 .have d:=d e1
  have a:=a e2;refine⟨(λz=>by cases z),λ_=>?_⟩
  show((S.sweep nf M j).2.2.pick nf (S.sweep nf M j).2.1 j).2.2.rem<_
  rw[a.1];exact d
 .have d:=d e1
  have b:=b e2;refine⟨(λz=>by cases z),λ_=>?_⟩
  show((S.sweep nf M j).2.2.pick nf (S.sweep nf M j).2.1 j).2.2.rem<_
  omega
theorem Fg(h:FrX p q A m0 M S w G)(hn:p.n<=64):
  Calls prog 58 #[.pointer (some ⟨A.fb,0,none⟩)] w λe w'=>e=.returned (.bool (S.round p.n M).1)/\Led (FrX p q A m0 (S.round p.n M).2.1 (S.round p.n M).2.2) G w w'/\lU M S (S.round p.n M):=by
 have n8:=h.n;have h2:(S.n:Int)<=8:=by omega
 have hd:∃lv,Blk w A.fb 4 (frC p.ptr (.slice A.ca S.n A.cc) (S.la.map A.cb) lv):=by
  obtain⟨⟨F,lv,kd,h1,h2,h3,_⟩,_⟩:=h;exact⟨lv,h3.hd⟩
 obtain⟨lv,hd⟩:=hd;have c0:=hd.cell (i:=1) (by omega);have lf:=hd.lt;simp only[frC]at c0;have H:=Hd h
 have hK:Hid (∀(j:Nat) W G',j<S.n->FrX p q A m0 (S.sweep p.n M j).2.1 (S.sweep p.n M j).2.2 W G'->Fr G w W->(∀i,G' i->G i\/w.heap.size<=i)->lU M S (S.sweep p.n M j)->Calls prog 20 #[.pointer (some ⟨A.fb,0,none⟩),.int .i64 j] W λe w'=>∃r,e=.returned (.bool r)/\((S.sweep p.n M j).1||r)=(S.sweep p.n M (j+1)).1/\(∃G'',FrX p q A m0 (S.sweep p.n M (j+1)).2.1 (S.sweep p.n M (j+1)).2.2 w' G''/\Fr G w w'/\(∀i,G'' i->G i\/w.heap.size<=i))/\lU M S (S.sweep p.n M (j+1))):=Hd λj W G' hj h f hg hs=>by
  have en:=FSt.sweep_n p.n M S j;have e:=AX hj n8.2;have hk:=wi (k:=(j:Int)) h hn;rw[en,e]at hk;refine hk.mono λe w' ⟨he,G'',k1,k2,k3⟩=>⟨_,he,rfl,⟨G'',k1,f.trans k2 (λi z=>hg i z),λi z=>?_⟩,FSt.sweep_rem en hj (h.ok j (by rw[en];exact hj)) hs⟩
  rcases k3 i z with y|y
  .exact hg i y
  .have:=f.size;exact .inr (by omega)
 clear h hd;go_enter func58,ntmps58
 go_wp2_with fail
 go_loopw [3,12] (λs3 s12 wr=>∃j:Nat,j<=S.n/\s3=.bool (S.sweep p.n M j).1/\s12=.int .i64 j/\(∃G',FrX p q A m0 (S.sweep p.n M j).2.1 (S.sweep p.n M j).2.2 wr G'/\Fr G w wr/\(∀i,G' i->G i\/w.heap.size<=i))/\lU M S (S.sweep p.n M j)) (λ_ s12 _=>S.n-(intOf s12).toNat)
 case atStart=>exact⟨0,Nat.zero_le _,rfl,rfl,⟨G,H.out,Fr.refl _ _,λi z=>.inl z⟩,λ_=>rfl,λz=>by cases z⟩
 case round=>
  obtain⟨j,hj,rfl,rfl,⟨G',h3,h4,h5⟩,h6⟩:=hrel;by_cases hl:j<S.n
  .have hlI:(j:Int)<(S.n:Int):=by omega
   have HP:=Hd (hK.out j wr G' hl h3 h4 h5 h6);clear h3 h4 h5 h6
   go_wp2_with fail
   refine HP.out.mono ?_;clear HP;rintro e w2⟨r,rfl,k0,k1,k2⟩;have HK:=Hd (And.intro k1 k2);clear k1 k2
   cases r
   .go_wp2
    go_roundw
    case rel=>exact⟨j+1,by omega,by rw[<-k0,Bool.or_false],by go_num,HK.out.1,HK.out.2⟩
    case measure=>simp[intOf];omega
   .go_wp2
    go_roundw
    case rel=>exact⟨j+1,by omega,by rw[<-k0,Bool.or_true],by go_num,HK.out.1,HK.out.2⟩
    case measure=>simp[intOf];omega
  .obtain rfl:j=S.n:=by omega
   have HX:=Hd (And.intro (show Led (FrX p q A m0 (S.sweep p.n M S.n).2.1 (S.sweep p.n M S.n).2.2) G w wr from⟨G',h3,h4,h5⟩) h6);clear h3 h4 h5 h6 hl;go_wp2;go_returns;exact⟨rfl,HX.out⟩
theorem DV(h:FrX p q A m0 M S w G)(hn:p.n<=64):
  Calls prog 25 #[.pointer (some ⟨A.fb,0,none⟩)] w λe w'=>e=.returned (.tuple #[])/\Led (FrX p q A m0 (S.rest p.n M).1 (S.rest p.n M).2) G w w':=by
 have H:=Hd h
 have hK:Hid (∀g M' S' W G',FrX p q A m0 M' S' W G'->Fr G w W->(∀i,G' i->G i\/w.heap.size<=i)->S'.rem<g+1->FSt.restG p.n (g+1) M' S'=S.rest p.n M->Calls prog 58 #[.pointer (some ⟨A.fb,0,none⟩)] W λe w'=>∃r,e=.returned (.bool r)/\((r=true/\∃M'' S'' G'',FrX p q A m0 M'' S'' w' G''/\Fr G w w'/\(∀i,G'' i->G i\/w.heap.size<=i)/\S''.rem<g/\FSt.restG p.n g M'' S''=S.rest p.n M)\/(r=false/\Led (FrX p q A m0 (S.rest p.n M).1 (S.rest p.n M).2) G w w'))):=Hd λg M' S' W G' h f hg hr he=>by
  refine(Fg h hn).mono λe w' ⟨k0,⟨G'',k1,k2,k3⟩,k4,k5⟩=>⟨_,k0,?_⟩
  have kf:Fr G w w':=f.trans k2 (λi z=>hg i z)
  have kg:∀i,G'' i->G i\/w.heap.size<=i:=λi z=>by
   rcases k3 i z with y|y
   .exact hg i y
   .have:=f.size;exact .inr (by omega)
  have e1:FSt.restG p.n (g+1) M' S'=if(S'.round p.n M').1=true then FSt.restG p.n g (S'.round p.n M').2.1 (S'.round p.n M').2.2 else(S'.round p.n M').2:=rfl
  rw[e1]at he;by_cases e2:(S'.round p.n M').1=true
  .rw[if_pos e2]at he
   have k5:=k5 e2;exact .inl ⟨e2,_,_,G'',k1,kf,kg,by omega,he⟩
  .rw[if_neg e2]at he
   refine .inr ⟨by simpa using e2,G'',?_,kf,kg⟩;rw[<-he];exact k1
 clear h;go_enter func25,ntmps25
 go_wp2_with fail
 go_loopg [] (S.rem+1) (λg wr=>0<g/\∃M' S' G',FrX p q A m0 M' S' wr G'/\Fr G w wr/\(∀i,G' i->G i\/w.heap.size<=i)/\S'.rem<g/\FSt.restG p.n g M' S'=S.rest p.n M)
 case atStart=>exact⟨by omega,M,S,G,H.out,Fr.refl _ _,λi z=>.inl z,by omega,rfl⟩
 case round=>
  obtain⟨hg,M',S',G',h1,h2,h3,h4,h5⟩:=hrel;obtain⟨g,rfl⟩:∃g,gk=g+1:=⟨gk-1,by omega⟩;have HP:=Hd (hK.out g M' S' wr G' h1 h2 h3 h4 h5);clear h1 h2 h3 h4 h5
  go_wp2_with fail
  refine HP.out.mono ?_;clear HP;rintro e w2⟨r,rfl,k⟩;have HK:=Hd k;clear k
  cases r
  .go_wp2
   go_returns;rcases HK.out with⟨z,_⟩|⟨_,z⟩
   .cases z
   .exact⟨rfl,z⟩
  .go_wp2
   have hg2:0<g:=by
    rcases HK.out with⟨_,M2,S2,G2,_,_,_,z,_⟩|⟨z,_⟩
    .omega
    .cases z
   go_roundg g
   case rel=>
    rcases HK.out with⟨_,M2,S2,G2,z⟩|⟨z,_⟩
    .exact⟨hg2,M2,S2,G2,z⟩
    .cases z
   case measure=>omega
end
section
variable{w w':World}{base:Nat}{lv:Value}{L:List EnF}
theorem xq(h:fO w base lv L)(hn:L.length<=65535):Calls prog 57 #[lv] w λe w'=>∃v',e=.returned v'/\fO w' w.heap.size v' L/\Fr NoF w w':=by
 have HH:=Hd h;obtain⟨a,cap,rfl,h1,h2⟩:=SlC.shape (SlC.ofOwn h (dS L));have hone:Hid (∀u∈logC L,u.oneCell'=true):=Hd (dS L);unfold maxLen at h2
 cases a with
 |none=>
  have hz:Hid (∃v',Ending.returned (Value.slice none L.length cap)=.returned v'/\fO w w.heap.size v' L):=Hd ⟨_,rfl,h.1,by
   rcases h.2 with e|⟨g,c2,cur,e,_⟩
   .exact .inl e
   .simp at e⟩
  have hz2:L.length=0/\cap=0:=by
   rcases h.2 with⟨e,_⟩|⟨g,c2,cur,e,_⟩
   .simp only[Value.slice.injEq]at e;exact⟨e.2.1,e.2.2⟩
   .simp at e
  obtain⟨z1,rfl⟩:=hz2;rw[z1]at hz⊢;have hbin:∀W:World,(binOp .eql 73 (.slice none 0 0) (.slice none 0 0)).run prog W=.ok (.bool true) W:=λW=>by first|rfl|kernel_rfl
  clear h HH hone z1 h1 h2;go_enter func57,ntmps57;go_wp2;go_returns;obtain⟨v',e,z⟩:=hz.out;exact⟨v',e,z,Fr.refl _ _⟩
 |some p=>
  have hbin:∀W:World,(binOp .eql 73 (.slice (some p) L.length cap) (.slice none 0 0)).run prog W=.ok (.bool false) W:=λW=>by first|rfl|kernel_rfl
  clear h;go_enter func57,ntmps57
  go_wp2_with(at_builtin;go_must(refine jM (base:=w.heap.size) EIe rfl _ _ rfl (by rfl) (by rfl) (by simp) (bo (w0:=w) (Nat.le_refl _) #[] 79 8 0 _ rfl rfl (by unfold maxLen;omega)) (SlC.ofOwn (am HH.out ((Fr.refl NoF _).alloc _) (λ_ _ q=>q)) hone.out) (by unfold maxLen;omega) (by omega) ?_);intro v' w2 hown' hf' hob';have HF':=Hd hf';have HO':=Hd hown';clear hf' hown' hob')
  go_returns;refine⟨_,rfl,?_,((Fr.refl NoF w).alloc _).trans HF'.out (λi q=>.inr (by cases q;exact Nat.le_refl _))⟩;have h3:=HO'.out;rw[Nat.zero_add]at h3;exact h3
theorem xh{fb:Nat}{pv cv:Value}{la:Option Nat}(hf:Blk w fb 4 (frC pv cv la lv))(h:fO w base lv L)(hn:L.length<=65535):Calls prog 24 #[.pointer (some ⟨fb,0,none⟩)] w λe w'=>∃v',e=.returned v'/\fO w' w.heap.size v' L/\Fr NoF w w':=by
 have c3:=hf.cell (i:=3) (by omega);have lf:=hf.lt;simp only[frC]at c3;have HP:=Hd (xq h hn);clear hf h;go_enter func24,ntmps24
 go_wp2_with fail
 refine HP.out.mono ?_;clear HP;rintro e w2⟨v',rfl,h1,h2⟩;have HK:=Hd (And.intro h1 h2);clear h1 h2;go_wp2;go_returns;exact⟨_,rfl,HK.out⟩
end
section
variable{w w':World}{fb n cc d mb s cnt i:Nat}{ca:Option Addr}{pv ov lv:Value}{la:Option Nat}{cb:Nat->Nat}{c:Int}{pin:Nat->Nat}{id:Nat}
theorem us(hf:Blk w fb 4 (frC pv (.slice ca n cc) la lv))(hc:c<0\/(n:Int)<=c):Calls prog 27 #[.pointer (some ⟨fb,0,none⟩),.int .i64 c,.int .u32 id] w λe w'=>e=.returned (.int .i64 0)/\w=w':=by
 have c0:=hf.cell (i:=1) (by omega);have lf:=hf.lt;simp only[frC]at c0;clear hf;by_cases h:c<0
 .clear hc
  go_enter func27,ntmps27;go_wp2;go_returns;exact⟨rfl,rfl⟩
 .have h2:(n:Int)<=c:=by omega
  clear hc;go_enter func27,ntmps27;go_wp2;go_returns;exact⟨rfl,rfl⟩
theorem tI{j:Nat}(hj:j<n)(h8:n<=8)(hid:id<4294967296)(hf:Blk w fb 4 (frC pv (.slice ca n cc) la lv))(hs:SlC w 1 (.slice ca n cc) n (ptrsC n cb))(hc:Blk w (cb j) 5 (clC i ov d mb (cb j) s))(hm:aG w mb cnt (aX pin)):
  Calls prog 27 #[.pointer (some ⟨fb,0,none⟩),.int .i64 j,.int .u32 id] w λe w'=>e=.returned (.int .i64 (pin id:Nat))/\Fr NoF w w':=by
 obtain⟨b1,o1,c1,e1,-,-,hb1,g1⟩:=hs.at hj (by omega);simp only[Value.slice.injEq]at e1;obtain⟨rfl,-,rfl⟩:=e1;have p0:=g1 _ _ (kW cb hj);have c0:=hf.cell (i:=1) (by omega);have lf:=hf.lt;have c3:=hc.cell (i:=3) (by omega);have lc:=hc.lt;simp only[frC]at c0;simp only[clC]at c3;have hwf:=rQ hid;have h1:=hm.look_run MVf hwf;rw[fY]at h1;have hjI:((j:Nat):Int)<(n:Int):=by omega
 have hj0:¬((j:Nat):Int)<0:=by omega
 generalize pin id=pn at*;clear hf hs hc hm g1;go_enter func27,ntmps27;go_wp2;go_returns;exact⟨rfl,Fr.refl _ _⟩
end
def FSt.holds(S:FSt)(c:Int)(id:Nat):Nat:=if 0<=c/\c<(S.n:Int)then(S.cl c.toNat).pin id else 0
def FSt.latch(S:FSt):Int:=match S.la with|none=> -1|some c=>(c:Int)
section
variable{p:PP}{q:Bool}{M:AM}{m0:Nat}{w w':World}{A:FA}{S:FSt}{G:Nat->Prop}
theorem EG(h:FrX p q A m0 M S w G):Calls prog 24 #[.pointer (some ⟨A.fb,0,none⟩)] w λe w'=>∃v',e=.returned v'/\fO w' w.heap.size v' S.log/\FrX p q A m0 M S w' G/\Fr NoF w w':=by
 have hf:=h.few;have hm:=h.2.2;have H:=h;obtain⟨⟨F,lv,kd,h1,h2,h3,_⟩,_⟩:=h;exact(xh h3.hd h3.lg (by omega)).mono λe w' ⟨v',a,b,f⟩=>⟨v',a,b,H.fr0 f,f⟩
theorem Fn(h:FrX p q A m0 M S w G)(c:Int){id:Nat}(hid:id<4294967296):Calls prog 27 #[.pointer (some ⟨A.fb,0,none⟩),.int .i64 c,.int .u32 id] w λe w'=>e=.returned (.int .i64 (S.holds c id:Nat))/\FrX p q A m0 M S w' G/\Fr NoF w w':=by
 have H:=h;obtain⟨⟨F,lv,kd,h1,h2,h3,_⟩,_⟩:=h;unfold FSt.holds;by_cases hc:0<=c/\c<(S.n:Int)
 .rw[if_pos hc]
  obtain⟨j,rfl⟩:∃j:Nat,c=j:=⟨c.toNat,by omega⟩;have hj:j<S.n:=by omega
  obtain⟨cnt,_,hp⟩:=h3.pn j hj;exact(tI hj h3.n8 hid h3.hd h3.cs (h3.cl j hj) hp).mono λe w' ⟨a,f⟩=>⟨a,H.fr0 f,f⟩
 .rw[if_neg hc]
  exact(us h3.hd (by omega)).mono λe w' ⟨a,f⟩=>by subst f;exact⟨a,H,Fr.refl _ _⟩
theorem Ev(h:FrX p q A m0 M S w G):Calls prog 22 #[.pointer (some ⟨A.fb,0,none⟩)] w λe w'=>e=.returned (.int .i64 S.latch)/\w=w':=by
 obtain⟨⟨F,lv,kd,h1,h2,h3,_⟩,_⟩:=h;unfold FSt.latch
 cases hl:S.la with
 |none=>
  have hd:=h3.hd;rw[hl]at hd;exact sI hd
 |some c=>
  have hd:=h3.hd;rw[hl]at hd;exact tt hd (h3.cl c (h3.lal c hl))
end
theorem EIo:EI prog 135 50 3 24:=EI.mk' (z:=.agg #[.int .i64 0,.int .u32 0,.int .u64 0]) underlying135 (by kernel_rfl) rfl (by decide)
theorem ma(l:List OpF):∀u∈opsC l,u.oneCell'=true:=by
 intro u hu;obtain⟨o,_,ho⟩:=List.mem_flatMap.1 hu;simp only[opC,List.mem_cons,List.not_mem_nil,or_false]at ho;rcases ho with rfl|rfl|rfl<;>rfl
theorem xr:aX (λ_=>0)=λ_=>none:=by
 funext x
 simp[aX]
section
variable{w w':World}{v:Value}{l:List OpF}
theorem xj(h:SlC w 3 v l.length (opsC l))(hn:l.length<=65535):Calls prog 115 #[v] w λe w'=>∃v',e=.returned v'/\SlC w' 3 v' l.length (opsC l)/\(∀b,v'.ownBlock=some b->w.heap.size<=b)/\Fr NoF w w':=by
 have HH:=Hd h;obtain⟨a,cap,rfl,h1,h2⟩:=SlC.shape h;have hone:Hid (∀u∈opsC l,u.oneCell'=true):=Hd (ma l);unfold maxLen at h2
 cases a with
 |none=>
  have hz2:l.length=0/\cap=0:=by
   obtain⟨a2,c2,e,h3,h4,h5,h6,h7⟩:=h;simp only[Value.slice.injEq]at e;obtain⟨rfl,-,rfl⟩:=e;rcases h7 with⟨_,z⟩|⟨g,z⟩
   .omega
   .simp at z
  obtain⟨z1,rfl⟩:=hz2;have hz:Hid (SlC w 3 (.slice none 0 0) 0 (opsC l)):=Hd (by rw[z1]at h;exact h);rw[z1];have hbin:∀W:World,(binOp .eql 135 (.slice none 0 0) (.slice none 0 0)).run prog W=.ok (.bool true) W:=λW=>by first|rfl|kernel_rfl
  clear h HH hone h1 h2;go_enter func115,ntmps115;go_wp2;go_returns;exact⟨_,rfl,hz.out,λb q=>(by cases q),Fr.refl _ _⟩
 |some p=>
  have hbin:∀W:World,(binOp .eql 135 (.slice (some p) l.length cap) (.slice none 0 0)).run prog W=.ok (.bool false) W:=λW=>by first|rfl|kernel_rfl
  clear h;go_enter func115,ntmps115
  go_wp2_with(at_builtin;go_must(refine jM (base:=w.heap.size) EIo rfl _ _ rfl (by rfl) (by rfl) (by simp) (bo (w0:=w) (Nat.le_refl _) #[] 50 3 0 _ rfl rfl (by unfold maxLen;omega)) (SlC.keep HH.out ((Fr.refl NoF _).alloc _)) (by unfold maxLen;omega) (by omega) ?_);intro v' w2 hown' hf' hob';have HF':=Hd hf';have HO':=Hd hown';clear hf' hown' hob')
  go_returns;have h3:=HO'.out;rw[Nat.zero_add]at h3;exact⟨_,rfl,SlC.ofOwn h3 hone.out,aL h3,((Fr.refl NoF w).alloc _).trans HF'.out (λi q=>.inr (by cases q;exact Nat.le_refl _))⟩
def sL(w:World)(i:Nat)(l:List OpF)(cb mb:Nat)(oa:Option Addr)(oc:Nat):Prop:=Blk w cb 5 (clC i (.slice oa l.length oc) 0 mb cb (go1 0 l.length))/\SlC w 3 (.slice oa l.length oc) l.length (opsC l)/\aG w mb 0 (aX λ_=>0)
theorem sL.fr{i cb mb oc:Nat}{oa:Option Addr}{X:Nat->Prop}(h:sL w i l cb mb oa oc)(f:Fr X w w')(h1:¬X cb)(h2:¬X mb)(h3:∀j,(Value.slice oa l.length oc).ownBlock=some j->¬X j):sL w' i l cb mb oa oc:=
 ⟨h.1.fr f h1,h.2.1.fr f h3,h.2.2.fr f h2⟩
theorem kh(i:Nat)(h:SlC w 3 v l.length (opsC l))(hn:l.length<=1000):Calls prog 88 #[.int .i64 i,v] w λe w'=>∃cb mb oa oc,e=.returned (.pointer (some ⟨cb,0,none⟩))/\sL w' i l cb mb oa oc/\w.heap.size<=mb/\mb<cb/\(∀j,(Value.slice oa l.length oc).ownBlock=some j->w.heap.size<=j/\j<mb)/\Fr NoF w w':=by
 have HP:=Hd (xj h (by omega));have hmm:=@run_makeMap prog;clear h;go_enter func88,ntmps88
 go_wp2_with fail
 refine HP.out.mono ?_;clear HP;rintro e w2⟨v',rfl,h1,h2,h3⟩;obtain⟨a,c,rfl,-,-⟩:=h1.shape;have s2:=h3.size
 have KK:Hid (∀W:World,W=(w2.alloc (.map #[] 0)).alloc (.cells #[.int .i64 i,.slice a l.length c,.int .i64 0,.map (some w2.heap.size),.nilFunc] 142)->Calls prog 116 #[.pointer (some ⟨w2.heap.size+1,0,none⟩)] W λe w'=>e=.returned (.tuple #[])/\∃cb mb oa oc,Value.pointer (some ⟨w2.heap.size+1,0,none⟩)=.pointer (some ⟨cb,0,none⟩)/\sL w' i l cb mb oa oc/\w.heap.size<=mb/\mb<cb/\(∀j,(Value.slice oa l.length oc).ownBlock=some j->w.heap.size<=j/\j<mb)/\Fr NoF w w'):=Hd (by
  rintro W rfl;have fa:Fr NoF w2 ((w2.alloc (.map #[] 0)).alloc (.cells #[.int .i64 i,.slice a l.length c,.int .i64 0,.map (some w2.heap.size),.nilFunc] 142)):=((Fr.refl NoF w2).alloc _).alloc _
  have hb:Blk ((w2.alloc (.map #[] 0)).alloc (.cells #[.int .i64 i,.slice a l.length c,.int .i64 0,.map (some w2.heap.size),.nilFunc] 142)) (w2.heap.size+1) 5 (clC i (.slice a l.length c) 0 w2.heap.size (w2.heap.size+1) 0):=by
   refine⟨_,_,heap_alloc_new _ _ _ (by simp),rfl,λk hk=>?_⟩
   match k,hk with
   |0,_=>rfl
   |1,_=>rfl
   |2,_=>rfl
   |3,_=>rfl
   |4,_=>rfl
  have hm:aG ((w2.alloc (.map #[] 0)).alloc (.cells #[.int .i64 i,.slice a l.length c,.int .i64 0,.map (some w2.heap.size),.nilFunc] 142)) w2.heap.size 0 (aX λ_=>0):=by
   rw[xr];exact(MpV.made _ _ _ _ w2).fr ((Fr.refl NoF _).alloc _) (λq=>q)
  have ho:=h1.keep fa;refine(kU (by omega) (by omega) hb).mono λe w' ⟨he,k1,k2⟩=>⟨he,w2.heap.size+1,w2.heap.size,a,c,rfl,⟨k1,ho.fr k2 (λj z y=>?_),hm.fr k2 (by omega)⟩,s2,by omega,λj z=>⟨h2 j z,h1.lt j z⟩,?_⟩
  .have:=h1.lt j z;omega
  .exact(h3.trans fa (λj z=>.inl z)).trans k2 (λj z=>.inr (by omega)))
 clear h1 h2 h3 s2
 go_wp2_with fail
 refine(KK.out _ rfl).mono ?_;clear KK;rintro e w3⟨rfl,h4⟩;have HK:=Hd h4;clear h4;go_wp2;go_returns;obtain⟨cb,mb,oa,oc,z,y⟩:=HK.out;exact⟨cb,mb,oa,oc,by rw[<-z];rfl,y⟩
end
end
end Go.Proofs.YtkjhnllcphidpaaGreatDoor
