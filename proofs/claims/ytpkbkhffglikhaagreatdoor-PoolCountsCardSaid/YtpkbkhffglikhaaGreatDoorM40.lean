/- Part 40. -/
import Derived.Test.YtpkbkhffglikhaaGreatDoorM11
import Derived.Deep.Cut
namespace Go.Proofs.YtpkbkhffglikhaaGreatDoor
set_option linter.all false
set_option maxHeartbeats 16000000
set_option maxRecDepth 100000
section
open Go.Proofs.Tryz Go.RowKit
def SlZ(w:World)(v:Value)(l:List Int):Prop:=SlC w 1 v l.length (l.map λx=>Value.int .i64 x)
theorem SlZ.at{w:World}{v:Value}{x:Int}{l:List Int}(h:SlZ w v (x::l)):∃b off c,v=.slice (some ⟨b,off,none⟩) (l.length+1) c/\l.length+1<=c/\c<=maxLen/\b<w.heap.size/\w.cell? ⟨b,off,none⟩=some (.int .i64 x):=by
 obtain⟨b,off,c,e,h1,h2,h3,h4⟩:=SlC.at h (k:=0) (by show 0<l.length+1;omega) (by omega);exact⟨b,off,c,e,h1,h2,h3,h4 0 _ rfl⟩
theorem SlZ.tail{w:World}{x:Int}{l:List Int}{b off c:Nat}(h:SlZ w (.slice (some ⟨b,off,none⟩) (l.length+1) c) (x::l)):(c=1->SlZ w (.slice (some ⟨b,off,none⟩) 0 0) l/\l=[])/\(¬c=1->SlZ w (.slice (some ⟨b,off+1,none⟩) l.length (c-1)) l):=by
 have hlt:=SlC.lt h b rfl;obtain⟨_,_,e,hc,hm⟩:=SlC.shape h;simp only[Value.slice.injEq]at e;obtain⟨_,_,rfl⟩:=e;simp only[List.length_cons]at hc;refine⟨λe=>?_,λe=>?_⟩
 .have e0:l=[]:=List.length_eq_zero_iff.1 (by omega)
  subst e0;exact⟨⟨_,_,rfl,rfl,by simp,by show 0<=0;omega,by unfold maxLen;omega,.inr ⟨b,off,rfl,hlt,λj u hj=>by simp at hj⟩⟩,rfl⟩
 .obtain⟨b',o',e1,h1⟩:=SlC.cut (lo:=1) (hi:=l.length+1) h (by omega) (Nat.le_refl _) rfl (by omega)
  simp only[Option.some.injEq,Addr.mk.injEq]at e1;obtain⟨rfl,rfl,_⟩:=e1
  have e2:(List.take ((l.length+1-1)*1) (List.drop (1*1) (List.map (λx=>Value.int .i64 x) (x::l))))=l.map λx=>Value.int .i64 x:=by
   simp;exact List.take_of_length_le (by rw[List.length_map];exact Nat.le_refl _)
  rw[e2,show l.length+1-1=l.length from by omega,show off+1*1=off+1 from by omega]at h1;exact h1
def advP:Adv (List Int) where
 miss:=λl _=>l
 access:=λl _ _=>l
 set:=λl _ _=>l
 victim:=λl _=>match l with
  |[]=>none
  |x::_=>if x<0 then none else some x.toNat
 aft:=λl _=>l.tail
 remove:=λl _=>l
def AR(lb:Nat)(w:World)(l:List Int)(F:Nat->Prop):Prop:=∃v,Blk w lb 1 (λ_=>v)/\SlZ w v l/\¬v.ownBlock=some lb/\∀i,F i↔i=lb\/v.ownBlock=some i
def advV(lb:Nat):Value:=.iface 100 (.pointer (some ⟨lb,0,none⟩))
section
variable{w w':World}{lb:Nat}{l:List Int}{F:Nat->Prop}
theorem AR.fr(h:AR lb w l F){G:Nat->Prop}(f:Fr G w w')(hG:∀i,F i->¬G i):AR lb w' l F:=by
 obtain⟨v,h1,h2,h3,h4⟩:=h;exact⟨v,h1.fr f (hG _ ((h4 _).2 (.inl rfl))),SlC.fr h2 f (λb q=>hG b ((h4 b).2 (.inr q))),h3,h4⟩
theorem AR.lt(h:AR lb w l F):∀i,F i->i<w.heap.size:=by
 obtain⟨v,h1,h2,h3,h4⟩:=h;intro i q;rcases(h4 i).1 q with rfl|q
 .exact h1.lt
 .exact SlC.lt h2 i q
theorem AR.tld(h:AR lb w l F):Tld (AR lb) l F w w:=⟨F,h,Fr.refl _ _,λi q=>.inl q⟩
theorem av_miss{id:Nat}:Calls prog 235 #[.pointer (some ⟨lb,0,none⟩),.int .u32 id] w λe w'=>e=.returned (.tuple #[])/\w=w':=by
 go_enter func235,ntmps235;go_wp2;go_returns;exact⟨rfl,rfl⟩
theorem av_access{id k:Nat}:Calls prog 233 #[.pointer (some ⟨lb,0,none⟩),.int .i64 k,.int .u32 id] w λe w'=>e=.returned (.tuple #[])/\w=w':=by
 go_enter func233,ntmps233;go_wp2;go_returns;exact⟨rfl,rfl⟩
theorem av_set{k:Nat}{b:Bool}:Calls prog 237 #[.pointer (some ⟨lb,0,none⟩),.int .i64 k,.bool b] w λe w'=>e=.returned (.tuple #[])/\w=w':=by
 go_enter func237,ntmps237;go_wp2;go_returns;exact⟨rfl,rfl⟩
theorem av_remove{k:Nat}:Calls prog 236 #[.pointer (some ⟨lb,0,none⟩),.int .i64 k] w λe w'=>e=.returned (.tuple #[])/\w=w':=by
 go_enter func236,ntmps236;go_wp2;go_returns;exact⟨rfl,rfl⟩
theorem av_victim(h:AR lb w l F){id:Nat}:Calls prog 239 #[.pointer (some ⟨lb,0,none⟩),.int .u32 id] w λe w'=>
  (match advP.victim l id with
   |none=>∃x:Int,e=.returned (.tuple #[.int .i64 x,.bool false])
   |some a=>e=.returned (.tuple #[.int .i64 a,.bool true]))/\Tld (AR lb) (advP.aft l id) F w w':=by
 have h0:=h;obtain⟨v,h1,h2,h3,h4⟩:=h;have c0:w.cell? ⟨lb,0,none⟩=some v:=h1.cell (by omega);have z0:=h1.frozen 0;have lb0:=h1.lt
 cases l with
 |nil=>
  obtain⟨a,c,e,g1,g2⟩:=SlC.shape h2;subst e;have H0:=Hd h0
  show Calls _ _ _ _ λe w'=>(∃x:Int,e=.returned (.tuple #[.int .i64 x,.bool false]))/\Tld (AR lb) [] F w w'
  rw[show([]:List Int).length=0 from rfl]at c0;clear h0 h1 h2 h3 h4;go_enter func239,ntmps239;go_wp2;go_returns;exact⟨⟨0,rfl⟩,H0.out.tld⟩
 |cons x l=>
  obtain⟨b,off,c,e,g1,g2,g3,g4⟩:=h2.at;subst e;obtain⟨t1,t2⟩:=h2.tail;have hcb:¬lb=b:=λe=>h3 (by rw[e];rfl)
  have hcb2:¬b=lb:=λe=>h3 (by rw[<-e];rfl)
  have KW:Hid (∀nv:Value,(nv=.slice (some ⟨b,off,none⟩) 0 0/\c=1\/nv=.slice (some ⟨b,off+1,none⟩) l.length (c-1)/\¬c=1)->Tld (AR lb) l F w (w.setCell ⟨lb,0,none⟩ nv)):=λnv hv=>by
   have f:Fr (λi=>i=lb) w (w.setCell ⟨lb,0,none⟩ nv):=(Fr.refl (λi=>i=lb) w).setCell (p:=⟨lb,0,none⟩) (.inl rfl) _
   have hs:SlZ w nv l/\nv.ownBlock=some b:=by
    rcases hv with⟨rfl,q⟩|⟨rfl,q⟩
    .exact⟨(t1 q).1,rfl⟩
    .exact⟨t2 q,rfl⟩
   refine⟨F,⟨nv,(h1.set 0 nv).congr (λi hi=>?_),SlC.fr hs.1 f (λk q=>?_),λq=>?_,λi=>?_⟩,f.mono (λi q=>(h4 i).2 (.inl q)),λi q=>.inl q⟩
   .obtain rfl:i=0:=by omega
    rw[upd_same]
   .rw[hs.2]at q;cases q;exact hcb2
   .rw[hs.2]at q;cases q;exact hcb rfl
   .rw[h4 i,hs.2];exact Iff.rfl
  show Calls _ _ _ _ λe w'=>(match(if x<0 then none else some x.toNat:Option Nat)with
   |none=>∃x:Int,e=.returned (.tuple #[.int .i64 x,.bool false])
   |some a=>e=.returned (.tuple #[.int .i64 a,.bool true]))/\Tld (AR lb) l F w w'
  have hll:l.length+1<=9223372036854775807:=by unfold maxLen at g2;omega
  have HLL:=Hd hll;generalize l.length=n at*;clear h0 h1 h2 h3 h4 t1 t2 hll;unfold maxLen at g2;by_cases hx:x<0
  .rw[if_pos hx]
   have hd:decide (x<0)=true:=decide_eq_true hx;by_cases hc:c=1
   .subst hc
    obtain rfl:n=0:=by omega
    have HG:=Hd g2;clear g2;go_enter func239,ntmps239;go_wp2;go_returns;exact⟨⟨0,rfl⟩,KW.out _ (.inl ⟨by first|rfl|trivial,by first|rfl|trivial⟩)⟩
   .have hc2:1<c:=by omega
    have HG:=Hd g2;clear g2;go_enter func239,ntmps239;go_wp2;go_returns;exact⟨⟨0,rfl⟩,KW.out _ (.inr ⟨by first|rfl|(simp;done)|(congr 1<;>omega),hc⟩)⟩
  .rw[if_neg hx]
   have hd:decide (x<0)=false:=decide_eq_false hx;obtain⟨k,rfl⟩:=Int.eq_ofNat_of_zero_le (show 0<=x by omega);rw[show(k:Int).toNat=k from by omega];by_cases hc:c=1
   .subst hc
    obtain rfl:n=0:=by omega
    have HG:=Hd g2;clear g2;go_enter func239,ntmps239;go_wp2;go_returns;exact⟨rfl,KW.out _ (.inl ⟨by first|rfl|trivial,by first|rfl|trivial⟩)⟩
   .have hc2:1<c:=by omega
    have HG:=Hd g2;clear g2;go_enter func239,ntmps239;go_wp2;go_returns;exact⟨rfl,KW.out _ (.inr ⟨by first|rfl|(simp;done)|(congr 1<;>omega),hc⟩)⟩
theorem ad_p1{id b2:Nat}(h:AR lb w l F)(q2:w.cell? ⟨b2,0,none⟩=some (.int .u32 id))(q4:b2<w.heap.size):Calls prog 67 #[advV lb,.pointer (some ⟨b2,0,none⟩)] w λe w'=>e=.returned (.tuple #[])/\Tld (AR lb) l F w w':=by
 have HM:Hid (Calls _ _ _ _ _):=av_miss (lb:=lb) (w:=w) (id:=id);have HT:=Hd h.tld;unfold advV;clear h;go_enter func67,ntmps67
 go_wp2_with fail
 refine HM.out.mono ?_;rintro e w1⟨rfl,rfl⟩;go_wp2;go_returns;exact⟨rfl,HT.out⟩
theorem ad_p2{k id b1 b2:Nat}(h:AR lb w l F)(q1:w.cell? ⟨b1,0,none⟩=some (.int .i64 k))(q2:w.cell? ⟨b2,0,none⟩=some (.int .u32 id))(q3:b1<w.heap.size)(q4:b2<w.heap.size):Calls prog 70 #[advV lb,.pointer (some ⟨b1,0,none⟩),.pointer (some ⟨b2,0,none⟩)] w λe w'=>e=.returned (.tuple #[])/\Tld (AR lb) l F w w':=by
 have HM:Hid (Calls _ _ _ _ _):=av_access (lb:=lb) (w:=w) (k:=k) (id:=id);have HT:=Hd h.tld;unfold advV;clear h;go_enter func70,ntmps70
 go_wp2_with fail
 refine HM.out.mono ?_;rintro e w1⟨rfl,rfl⟩;go_wp2;go_returns;exact⟨rfl,HT.out⟩
theorem ad_e1{k id b1 b2:Nat}(h:AR lb w l F)(q1:w.cell? ⟨b1,0,none⟩=some (.int .i64 k))(q2:w.cell? ⟨b2,0,none⟩=some (.int .u32 id))(q3:b1<w.heap.size)(q4:b2<w.heap.size):Calls prog 75 #[advV lb,.pointer (some ⟨b1,0,none⟩),.pointer (some ⟨b2,0,none⟩)] w λe w'=>e=.returned (.tuple #[])/\Tld (AR lb) l F w w':=by
 have HM:Hid (Calls _ _ _ _ _):=av_access (lb:=lb) (w:=w) (k:=k) (id:=id);have HT:=Hd h.tld;unfold advV;clear h;go_enter func75,ntmps75
 go_wp2_with fail
 refine HM.out.mono ?_;rintro e w1⟨rfl,rfl⟩;go_wp2;go_returns;exact⟨rfl,HT.out⟩
theorem ad_t1{k id b1 b2:Nat}(h:AR lb w l F)(q1:w.cell? ⟨b1,0,none⟩=some (.int .i64 k))(q2:w.cell? ⟨b2,0,none⟩=some (.int .u32 id))(q3:b1<w.heap.size)(q4:b2<w.heap.size):Calls prog 78 #[advV lb,.pointer (some ⟨b1,0,none⟩),.pointer (some ⟨b2,0,none⟩)] w λe w'=>e=.returned (.tuple #[])/\Tld (AR lb) l F w w':=by
 have HM:Hid (Calls _ _ _ _ _):=av_access (lb:=lb) (w:=w) (k:=k) (id:=id);have HT:=Hd h.tld;unfold advV;clear h;go_enter func78,ntmps78
 go_wp2_with fail
 refine HM.out.mono ?_;rintro e w1⟨rfl,rfl⟩;go_wp2;go_returns;exact⟨rfl,HT.out⟩
theorem ad_p3{k b1:Nat}(h:AR lb w l F)(q1:w.cell? ⟨b1,0,none⟩=some (.int .i64 k))(q3:b1<w.heap.size):Calls prog 71 #[advV lb,.pointer (some ⟨b1,0,none⟩)] w λe w'=>e=.returned (.tuple #[])/\Tld (AR lb) l F w w':=by
 have HM:Hid (Calls _ _ _ _ _):=av_set (lb:=lb) (w:=w) (k:=k) (b:=true);have HT:=Hd h.tld;unfold advV;clear h;go_enter func71,ntmps71
 go_wp2_with fail
 refine HM.out.mono ?_;rintro e w1⟨rfl,rfl⟩;go_wp2;go_returns;exact⟨rfl,HT.out⟩
theorem ad_u1{k b1:Nat}(h:AR lb w l F)(q1:w.cell? ⟨b1,0,none⟩=some (.int .i64 k))(q3:b1<w.heap.size):Calls prog 49 #[advV lb,.pointer (some ⟨b1,0,none⟩)] w λe w'=>e=.returned (.tuple #[])/\Tld (AR lb) l F w w':=by
 have HM:Hid (Calls _ _ _ _ _):=av_set (lb:=lb) (w:=w) (k:=k) (b:=true);have HT:=Hd h.tld;unfold advV;clear h;go_enter func49,ntmps49
 go_wp2_with fail
 refine HM.out.mono ?_;rintro e w1⟨rfl,rfl⟩;go_wp2;go_returns;exact⟨rfl,HT.out⟩
theorem ad_t2{k b1:Nat}(h:AR lb w l F)(q1:w.cell? ⟨b1,0,none⟩=some (.int .i64 k))(q3:b1<w.heap.size):Calls prog 79 #[advV lb,.pointer (some ⟨b1,0,none⟩)] w λe w'=>e=.returned (.tuple #[])/\Tld (AR lb) l F w w':=by
 have HM:Hid (Calls _ _ _ _ _):=av_set (lb:=lb) (w:=w) (k:=k) (b:=false);have HT:=Hd h.tld;unfold advV;clear h;go_enter func79,ntmps79
 go_wp2_with fail
 refine HM.out.mono ?_;rintro e w1⟨rfl,rfl⟩;go_wp2;go_returns;exact⟨rfl,HT.out⟩
theorem ad_v1{k b1:Nat}(h:AR lb w l F)(q1:w.cell? ⟨b1,0,none⟩=some (.int .i64 k))(q3:b1<w.heap.size):Calls prog 89 #[advV lb,.pointer (some ⟨b1,0,none⟩)] w λe w'=>e=.returned (.tuple #[])/\Tld (AR lb) l F w w':=by
 have HM:Hid (Calls _ _ _ _ _):=av_remove (lb:=lb) (w:=w) (k:=k);have HT:=Hd h.tld;unfold advV;clear h;go_enter func89,ntmps89
 go_wp2_with fail
 refine HM.out.mono ?_;rintro e w1⟨rfl,rfl⟩;go_wp2;go_returns;exact⟨rfl,HT.out⟩
theorem ad_r1{k b1:Nat}(h:AR lb w l F)(q1:w.cell? ⟨b1,0,none⟩=some (.int .i64 k))(q3:b1<w.heap.size):Calls prog 80 #[advV lb,.pointer (some ⟨b1,0,none⟩)] w λe w'=>e=.returned (.tuple #[])/\Tld (AR lb) l F w w':=by
 have HM:Hid (Calls _ _ _ _ _):=av_remove (lb:=lb) (w:=w) (k:=k);have HT:=Hd h.tld;unfold advV;clear h;go_enter func80,ntmps80
 go_wp2_with fail
 refine HM.out.mono ?_;rintro e w1⟨rfl,rfl⟩;go_wp2;go_returns;exact⟨rfl,HT.out⟩
theorem ad_ask{pb id:Nat}(h:AR lb w l F)(q1:w.cell? ⟨pb,1,none⟩=some (advV lb))(q2:pb<w.heap.size):Calls prog 88 #[.pointer (some ⟨pb,0,none⟩),.int .u32 id] w λe w'=>
  (match advP.victim l id with
   |none=>∃x:Int,e=.returned (.tuple #[.int .i64 x,.bool false])
   |some a=>e=.returned (.tuple #[.int .i64 a,.bool true]))/\Tld (AR lb) (advP.aft l id) F w w':=by
 have HV:=Hd (av_victim h (id:=id));unfold advV at q1;clear h;generalize advP.aft l id=l2 at*;generalize advP.victim l id=v at*
 cases v with
 |none=>
  go_enter_defers func88,ntmps88
  go_wp2_with fail
  refine HV.out.mono ?_;rintro e w1⟨⟨x,rfl⟩,h1⟩;have H1:=Hd h1;clear h1;go_wp2;refine leaves_cons (f:=105) (args:=#[]) (by simp) (by simp[go_sem]) ?_;refine(ask_idle _).mono ?_;rintro e u' w''⟨rfl,rfl,rfl⟩;simp[Leaves,settle,results,Tryz.results88,go_sem];exact H1.out
 |some a=>
  go_enter_defers func88,ntmps88
  go_wp2_with fail
  refine HV.out.mono ?_;rintro e w1⟨rfl,h1⟩;have H1:=Hd h1;clear h1;go_wp2;refine leaves_cons (f:=105) (args:=#[]) (by simp) (by simp[go_sem]) ?_;refine(ask_idle _).mono ?_;rintro e u' w''⟨rfl,rfl,rfl⟩;simp[Leaves,settle,results,Tryz.results88,go_sem];exact H1.out
theorem adv_sys(pb lb n:Nat):RepSys advP (AR lb) pb (advV lb) n (λ_ _ _ _=>True) where
 fr:=λh f hG=>h.fr f hG
 lt:=λh=>h.lt
 more:=λ_ _=>trivial
 same:=λ_ _ _=>trivial
 miss:=λh _ _ _ _ _ q2 q4 _=>ad_p1 h q2 q4
 acc:=λh _ _ _ _ _ _ q1 q2 q3 q4 _ _ hg=>by
  rcases hg with rfl|rfl|rfl
  .exact ad_p2 h q1 q2 q3 q4
  .exact ad_e1 h q1 q2 q3 q4
  .exact ad_t1 h q1 q2 q3 q4
 setT:=λh _ _ _ _ q1 q3 _ hg=>by
  rcases hg with rfl|rfl
  .exact ad_p3 h q1 q3
  .exact ad_u1 h q1 q3
 setF:=λh _ _ _ _ q1 q3 _=>ad_t2 h q1 q3
 rem:=λh _ _ _ _ q1 q3 _ hg=>by
  rcases hg with rfl|rfl
  .exact ad_v1 h q1 q3
  .exact ad_r1 h q1 q3
 ask:=λh _ _ _ _ _ _ q1 q2 _=>ad_ask h q1 q2
 okMiss:=λ_ _ _ _=>trivial
 okNew:=λ_ _ _ _ _ _ _=>trivial
 okOld:=λ_ _ _ _ _=>trivial
 okSet:=λ_ _ _ _ _=>trivial
 okRem:=λ_ _ _ _=>trivial
 okYes:=λ_ _ _ _ _ _=>trivial
 okNo:=λ_ _ _ _ _=>trivial
end
section
variable{w w':World}{v:Value}{l:List Int}
theorem clone_ints(h:SlZ w v l)(hl:l.length<=65535):Calls prog 41 #[v] w λe w'=>∃v',e=.returned v'/\SlZ w' v' l/\(∀b,v'.ownBlock=some b->w.heap.size<=b)/\Fr NoF w w':=by
 have HH:=Hd h;obtain⟨a,cap,rfl,h1,h2⟩:=SlC.shape h
 have hone:Hid (∀u∈l.map (λx=>Value.int .i64 x),u.oneCell'=true):=by
  intro u hu;obtain⟨j,_,rfl⟩:=List.mem_map.1 hu;rfl
 unfold maxLen at h2
 cases a with
 |none=>
  have hz:cap=0:=by
   obtain⟨a',c',e,_,_,_,_,h5⟩:=h;simp only[Value.slice.injEq]at e;obtain⟨rfl,_,rfl⟩:=e;rcases h5 with⟨_,q⟩|⟨_,_,q,_⟩
   .exact q
   .cases q
  subst hz;have hn:l=[]:=List.length_eq_zero_iff.1 (by omega);subst hn;have hbin:∀W:World,(binOp .eql 24 (.slice none 0 0) (.slice none 0 0)).run prog W=.ok (.bool true) W:=λW=>by first|rfl|kernel_rfl
  clear h
  show Calls _ _ #[.slice none 0 0] _ _
  go_enter func41,ntmps41;go_wp2;go_returns;exact⟨_,rfl,SlC.nil _ _,λb q=>(by cases q),Fr.refl _ _⟩
 |some p=>
  have hbin:∀W:World,(binOp .eql 24 (.slice (some p) l.length cap) (.slice none 0 0)).run prog W=.ok (.bool false) W:=λW=>by first|rfl|kernel_rfl
  clear h;go_enter func41,ntmps41
  go_wp2_with(at_builtin;go_must(refine appLB (base:=w.heap.size) EIi rfl _ _ rfl (by rfl) (by rfl) (by simp) (own_new (w0:=w) (Nat.le_refl _) #[] 3 1 0 _ rfl rfl (by unfold maxLen;omega)) (SlC.keep HH.out ((Fr.refl NoF _).alloc _)) (by unfold maxLen;omega) (by omega) ?_);intro v' w2 hown' hf' hob';have HF':=Hd hf';have HO':=Hd hown';clear hf' hown' hob')
  go_returns;have ho:=HO'.out;rw[Nat.zero_add,List.nil_append]at ho;exact⟨_,rfl,SlC.ofOwn ho hone.out,own_base ho,((Fr.refl NoF w).alloc _).trans HF'.out (λi q=>.inr (by cases q;exact Nat.le_refl _))⟩
theorem advise_calls(h:SlZ w v l)(hl:l.length<=65535):Calls prog 21 #[v] w λe w'=>∃lb F,e=.returned (advV lb)/\AR lb w' l F/\(∀i,F i->w.heap.size<=i)/\Fr NoF w w':=by
 have HC:=Hd (clone_ints h hl);clear h hl;go_enter func21,ntmps21
 go_wp2_with fail
 refine HC.out.mono ?_;rintro e w1⟨v',rfl,h1,h2,h3⟩;obtain⟨sa,sc,rfl,s1,s2⟩:=SlC.shape h1;clear s1 s2;have H1:=Hd h1;have H2:=Hd h2;have H3:=Hd h3;clear h1 h2 h3 HC;go_wp2;go_returns;have fa:Fr NoF w1 (w1.alloc (.cells #[.slice sa l.length sc] 103)):=(Fr.refl NoF w1).alloc _;have hs:=H3.out.size;refine⟨w1.heap.size,λi=>i=w1.heap.size\/(Value.slice sa l.length sc).ownBlock=some i,rfl,⟨.slice sa l.length sc,blk1 w1 _ _,SlC.keep H1.out fa,λq=>?_,λi=>Iff.rfl⟩,λi q=>?_,H3.out.trans fa (λ_ q=>q.elim)⟩
 .have:=SlC.lt H1.out _ q;omega
 .rcases q with rfl|q
  .exact hs
  .exact H2.out i q
end
end
section
open Go.Maps Go.Proofs.Tryz Go.RowKit
section
variable{w w':World}
theorem full_at(n:Nat)(w:World)(h1:1<=n)(h2:n<=65535):Calls prog 39 #[.int .i64 n] w λe w'=>∃v h L lo hi,lo=w.heap.size/\hi=w'.heap.size/\e=.returned (.agg #[.int .i64 n,.int .i64 n,v])/\LS w' n (belowB n) v h L/\(∀k,LF v h L k->lo<=k/\k<hi)/\Fr NoF w w':=
 (full_calls n w h1 h2).mono λe w' ⟨v,h,L,he,q1,q2,q3⟩=>⟨v,h,L,_,_,rfl,rfl,he,q1,λk q=>⟨q2 k q,q1.r.lt k q⟩,q3⟩
theorem empty_at(n:Nat)(w:World)(h1:1<=n)(h2:n<=65535):Calls prog 40 #[.int .i64 n] w λe w'=>∃v h L lo hi,lo=w.heap.size/\hi=w'.heap.size/\e=.returned (.agg #[.int .i64 n,.int .i64 0,v])/\LS w' n noneB v h L/\(∀k,LF v h L k->lo<=k/\k<hi)/\Fr NoF w w':=
 (empty_calls n w h1 h2).mono λe w' ⟨v,h,L,he,q1,q2,q3⟩=>⟨v,h,L,_,_,rfl,rfl,he,q1,λk q=>⟨q2 k q,q1.r.lt k q⟩,q3⟩
theorem frV_made{n b:Nat}(hb:b=w.heap.size):Blk (w.alloc (.cells (madeCells #[.int .u32 0,.int .u64 0,.int .i64 0,.bool false] (n*4)) 70)) b (n*4) (frV λ_=>zF):=by
 refine Blk.new w _ _ _ _ _ hb (size_madeCells _ _) (λi hi=>?_);rw[made_at hi];unfold frV;have h4:i%4=0\/i%4=1\/i%4=2\/i%4=3:=by omega
 show some (#[Value.int .u32 0,.int .u64 0,.int .i64 0,.bool false][i%4]!)=_
 rcases h4 with e|e|e|e<;>rw[e]<;>rfl
theorem mpi_new{b:Nat}(hb:b=w.heap.size):MpV prog 32 .u32 (.int .i64 0) (w.alloc (.map #[] 0)) b 0 (plV λ_=>none):=by
 subst hb;have e:plV (λ_=>none)=λ_=>none:=by funext x;unfold plV;split<;>rfl
 rw[e];exact MpV.made _ _ _ _ _
theorem mpi_drew{b c:Nat}{m:Int->Option Value}(h:MpV prog 32 .u32 (.int .i64 0) w b c m):MpV prog 32 .u32 (.int .i64 0) w.drew b c m:=h.ofHeap rfl
theorem ls_fr{bound:Nat}{S:Nat->Bool}{v:Value}{h:Nat->Nat}{L:Nat}(H:LS w bound S v h L)(f:Fr NoF w w'):LS w' bound S v h L:=⟨H.r.fr f (λ_ _ q=>q),H.dom⟩
theorem fr_no{a b c:World}(h:Fr NoF a b)(k:Fr NoF b c):Fr NoF a c:=h.trans k (λ_ q=>q.elim)
theorem pnew_fin{X:World}{n db fb mb pb loE hiE loI hiI:Nat}{rv ev iv:Value}{eh ih:Nat->Nat}{eL iL:Nat}(hw:Fr NoF w X)(hpb:pb=X.heap.size)(hn:1<=n/\n<=65535)(ht:TabT w)
  (hf:Blk X fb (n*4) (frV λ_=>zF))(hm:MpV prog 32 .u32 (.int .i64 0) X mb 0 (plV λ_=>none))(he:LS X n (belowB n) ev eh eL)(hi:LS X n noneB iv ih iL)
  (b1:∀k,LF ev eh eL k->loE<=k/\k<hiE)(b2:∀k,LF iv ih iL k->loI<=k/\k<hiI)(d1:¬fb=mb/\w.heap.size<=fb/\w.heap.size<=mb/\w.heap.size<=loE/\w.heap.size<=loI)(d2:hiE<=loI\/hiI<=loE)(d3:(fb<loE\/hiE<=fb)/\(fb<loI\/hiI<=fb)/\(mb<loE\/hiE<=mb)/\(mb<loI\/hiI<=mb)):
  MP (X.alloc (.cells #[.pointer (some ⟨db,0,none⟩),rv,.slice (some ⟨fb,0,none⟩) n n,.map (some mb),.int .i64 n,.int .i64 n,ev,.int .i64 n,.int .i64 0,iv,.int .i64 0] 66)) ⟨n,pb,db,fb,mb,rv,ev,eh,eL,iv,ih,iL⟩ (λ_=>zF) (λ_=>none) (belowB n) noneB 0 0/\
  (∀i,(PP.mk n pb db fb mb rv ev eh eL iv ih iL).own i->w.heap.size<=i)/\Fr NoF w (X.alloc (.cells #[.pointer (some ⟨db,0,none⟩),rv,.slice (some ⟨fb,0,none⟩) n n,.map (some mb),.int .i64 n,.int .i64 n,ev,.int .i64 n,.int .i64 0,iv,.int .i64 0] 66)):=by
 have fz:=(Fr.refl NoF X).alloc (.cells #[.pointer (some ⟨db,0,none⟩),rv,.slice (some ⟨fb,0,none⟩) n n,.map (some mb),.int .i64 n,.int .i64 n,ev,.int .i64 n,.int .i64 0,iv,.int .i64 0] 66);have lf:=hf.lt;have lm:=hm.lt;have le:=he.r.lt;have li:=hi.r.lt;have hs:=hw.size;have htl:=ht.lt
 have howns:∀i,(PP.mk n pb db fb mb rv ev eh eL iv ih iL).own i->w.heap.size<=i:=λi q=>by
  rcases q with q|q|q|q|q
  .have q':i=pb:=q;omega
  .have q':i=fb:=q;omega
  .have q':i=mb:=q;omega
  .have:=b1 i q;omega
  .have:=b2 i q;omega
 refine⟨⟨Blk.new X _ _ 11 _ _ hpb rfl (λi hi=>?_),hf.fr fz (λq=>q),⟨0,Nat.le_refl _,hm.fr fz (λq=>q)⟩,ls_fr he fz,ls_fr hi fz,⟨by show¬fb=pb;omega,by show¬mb=pb;omega,by show¬mb=fb;omega⟩,λi q=>?_,λi q=>?_,(ht.fr0 hw).fr0 fz,λq=>by have:=howns _ q;omega,Nat.le_refl _,λi=>⟨by show 0<_;omega,by show 0<_;omega,by show 0<=0;omega⟩⟩,howns,fr_no hw fz⟩
 .have e1:cntB (belowB n) n=n:=cntB_below n n (Nat.le_refl _)
  have e2:cntB noneB n=0:=(cnt_none n noneB).2 (by
   cases e:fstB n noneB with
   |none=>rfl
   |some x=>have:=(fstB_some e).2.1;cases this)
  show _=some (pH _ (cntB (belowB n) n) (cntB noneB n) 0 i)
  rw[e1,e2]
  match i,hi with
  |0,_|1,_|2,_|3,_|4,_|5,_|6,_|7,_|8,_|9,_|10,_=>rfl
 .have q':LF ev eh eL i:=q
  have r1:=b1 i q';have r2:=le i q';refine⟨by show¬i=pb;omega,by show¬i=fb;omega,by show¬i=mb;omega,λk=>?_⟩;have r3:=b2 i k;omega
 .have q':LF iv ih iL i:=q
  have r1:=b2 i q';have r2:=li i q';exact⟨by show¬i=pb;omega,by show¬i=fb;omega,by show¬i=mb;omega⟩
theorem pnew_step{X:World}{n db fb mb loE hiE loI hiI:Nat}{rv ev iv:Value}{eh ih:Nat->Nat}{eL iL:Nat}{Post:Ending->World->Prop}(hw:Fr NoF w X)(hn:1<=n/\n<=65535)(ht:TabT w)
  (hf:Blk X fb (n*4) (frV λ_=>zF))(hm:MpV prog 32 .u32 (.int .i64 0) X mb 0 (plV λ_=>none))(he:LS X n (belowB n) ev eh eL)(hi:LS X n noneB iv ih iL)
  (b1:∀k,LF ev eh eL k->loE<=k/\k<hiE)(b2:∀k,LF iv ih iL k->loI<=k/\k<hiI)(d1:¬fb=mb/\w.heap.size<=fb/\w.heap.size<=mb/\w.heap.size<=loE/\w.heap.size<=loI)(d2:hiE<=loI\/hiI<=loE)(d3:(fb<loE\/hiE<=fb)/\(fb<loI\/hiI<=fb)/\(mb<loE\/hiE<=mb)/\(mb<loI\/hiI<=mb))
  (h:∀XW (p:PP),(p.n=n/\p.db=db/\p.rv=rv/\p.pb=X.heap.size/\p.mb=mb)->MP XW p (λ_=>zF) (λ_=>none) (belowB n) noneB 0 0->(∀i,p.own i->w.heap.size<=i)->Fr NoF w XW->Calls prog 12 #[.pointer (some ⟨db,0,none⟩)] XW Post):
  Calls prog 12 #[.pointer (some ⟨db,0,none⟩)] (X.alloc (.cells #[.pointer (some ⟨db,0,none⟩),rv,.slice (some ⟨fb,0,none⟩) n n,.map (some mb),.int .i64 n,.int .i64 n,ev,.int .i64 n,.int .i64 0,iv,.int .i64 0] 66)) Post:=by
 obtain⟨q1,q2,q3⟩:=pnew_fin (db:=db) (rv:=rv) hw rfl hn ht hf hm he hi b1 b2 d1 d2 d3;exact h _ _ ⟨rfl,rfl,rfl,rfl,rfl⟩ q1 q2 q3
def plK(ids:List Nat)(k:Nat):Nat->Option Int:=λid=>if id∈ids.take k then some (-1)else none
theorem plK_0(ids:List Nat):plK ids 0=λ_=>none:=by funext x;simp[plK]
theorem mem_take(ids:List Nat){k:Nat}(hk:k<ids.length)(y:Nat):y∈ids.take (k+1)↔y∈ids.take k\/y=ids[k]:=by
 rw[List.take_add_one,List.mem_append];simp[hk]
theorem plK_next(ids:List Nat){k:Nat}(hk:k<ids.length):updO (plK ids k) ids[k] (some (-1))=plK ids (k+1):=by
 funext y
 by_cases e:y=ids[k]
 .rw[e,updO_same]
  unfold plK;rw[if_pos ((mem_take ids hk _).2 (.inr rfl))]
 .rw[updO_other _ _ e]
  unfold plK;by_cases q:y∈ids.take k
  .rw[if_pos q,if_pos ((mem_take ids hk y).2 (.inl q))]
  .rw[if_neg q,if_neg (λh=>((mem_take ids hk y).1 h).elim q e)]
theorem drew_size(w:World):w.drew.heap.size=w.heap.size:=rfl
theorem plK_all(ids:List Nat):plK ids ids.length=λid=>if id∈ids then some (-1)else none:=by funext y;unfold plK;rw[List.take_length]
theorem pnew_made(n db:Nat){rv:Value}{it:TypeId}{iv0:Value}(hrv:rv=.iface it iv0)(w:World)(hn:1<=n/\n<=65535)(ht:TabT w){ids:List Nat}(hil:ids.length<=1000)(hid:∀x∈ids,x<4294967296)(hP:∀W,Fr NoF w W->Calls prog 12 #[.pointer (some ⟨db,0,none⟩)] W λe w'=>∃v,e=.returned v/\OwK .u32 W.heap.size 32 w' v ids/\Fr NoF W w'):
  Calls prog 19 #[.pointer (some ⟨db,0,none⟩),.int .i64 n,rv] w λe w'=>∃p:PP,p.n=n/\p.db=db/\p.rv=rv/\e=.returned (.tuple #[p.ptr,.int .i64 0])/\MP w' p (λ_=>zF) (λid=>if id∈ids then some (-1)else none) (belowB n) noneB 0 1000/\(∀i,p.own i->w.heap.size<=i)/\Fr NoF w w':=by
 subst hrv;obtain⟨i0,hi0,hz0,hz1,hz2⟩:=info_parts' (P:=prog) (e:=70) (z:=.agg #[.int .u32 0,.int .u64 0,.int .i64 0,.bool false]) (s:=4) (b:=32) (by kernel_rfl)
 have mk1:∀(w:World),(Instr.makeSlice 60 (.int .i64 (n:Int)) (.int .i64 (n:Int))).run prog w=
   .ok (.slice (some ⟨w.heap.size,0,none⟩) n n) (w.alloc (.cells (madeCells #[.int .u32 0,.int .u64 0,.int .i64 0,.bool false] (n*4)) 70)):=by
  intro w;have:=run_make (P:=prog) w 60 70 i0 _ underlying60 hi0 hz0 .i64 .i64 (n:Int) (n:Int) (by omega) (Int.le_refl _) (by rw[hz2];omega) (by omega);rw[show(n:Int).toNat=n from by omega,hz1]at this;exact this
 have hmm:=@run_makeMap prog;have g1:decide ((n:Int)<1)=false:=by simp;omega
 have g2:decide (65535<(n:Int))=false:=by simp;omega
 have HNN:=Hd hn;have HP:=Hd hP;have HT:=Hd ht;have HID:=Hd hid;clear hi0 hz0 hz1 hz2 hn hP ht hid;go_enter func19,ntmps19
 go_upto_region 3 with fail
 clear g1 g2
 go_region_held3(λw'=>True)
  (trivial)
  (first
  |(go_at_call 39;(refine(full_at n _ HNN.out.1 HNN.out.2).mono ?_);rintro e wE⟨ev,eh,eL,loE,hiE,zE1,zE2,rfl,k1,k2,fE⟩;have K1:=Hd k1;have K2:=Hd k2;have FE:=Hd fE;have ZE1:=Hd zE1;have ZE2:=Hd zE2;clear k1 k2 fE zE1 zE2)
  |(go_at_call 40;(refine(empty_at n _ HNN.out.1 HNN.out.2).mono ?_);rintro e wI⟨iv,ih,iL,loI,hiI,zI1,zI2,rfl,k3,k4,fI⟩;have K3:=Hd k3;have K4:=Hd k4;have FI:=Hd fI;have ZI1:=Hd zI1;have ZI2:=Hd zI2;clear k3 k4 fI zI1 zI2))
 all_goals
  go_wp2_with fail
  have a1:=ZE1.out;have a2:=ZE2.out;have a3:=ZI1.out;have a4:=ZI2.out;have a5:=FE.out.size;have a6:=FI.out.size
  (try simp only[alloc_size,drew_size]at a1)
  (try simp only[alloc_size,drew_size]at a2)
  (try simp only[alloc_size,drew_size]at a3)
  (try simp only[alloc_size,drew_size]at a4)
  (try simp only[alloc_size,drew_size]at a5)
  (try simp only[alloc_size,drew_size]at a6)
  refine pnew_step
   (by repeat(first|(with_reducible exact Fr.refl NoF _)|(with_reducible refine Fr.alloc ?_ _)|(with_reducible refine Fr.drew ?_)|(with_reducible refine fr_no ?_ FE.out)|(with_reducible refine fr_no ?_ FI.out)))
   HNN.out HT.out
   (by repeat(first|((with_reducible refine frV_made ?_);first|rfl|(simp only[alloc_size];done)|simp)|(with_reducible refine Blk.alloc ?_ _)|(with_reducible refine Blk.drew ?_)|(with_reducible refine Blk.fr ?_ FE.out (λq=>q))|(with_reducible refine Blk.fr ?_ FI.out (λq=>q))))
   (by repeat(first|((with_reducible refine mpi_new ?_);first|rfl|(simp only[alloc_size];done)|simp)|(with_reducible refine MpV.alloc ?_ _)|(with_reducible refine mpi_drew ?_)|(with_reducible refine MpV.fr ?_ FE.out (λq=>q))|(with_reducible refine MpV.fr ?_ FI.out (λq=>q))))
   (ls_fr K1.out (by repeat(first|(with_reducible exact Fr.refl NoF _)|(with_reducible refine Fr.alloc ?_ _)|(with_reducible refine Fr.drew ?_)|(with_reducible refine fr_no ?_ FI.out))))
   (ls_fr K3.out (by repeat(first|(with_reducible exact Fr.refl NoF _)|(with_reducible refine Fr.alloc ?_ _)|(with_reducible refine Fr.drew ?_)|(with_reducible refine fr_no ?_ FE.out))))
   K2.out K4.out
   (by omega) (by omega) (by omega) ?_
  rintro XW p⟨hpn,hpd,hpr,hpb,hpm⟩hmp hown hfr
  (try simp only[alloc_size,drew_size]at hpb)
  (try simp only[alloc_size,drew_size]at hpm)
  have HPN:=Hd hpn;have HPD:=Hd hpd;have HPR:=Hd hpr;have HPB:=Hd hpb;have HPM:=Hd hpm;clear hpn hpd hpr hpb hpm;have HM:=Hd hmp;have HW:=Hd hown;have HF:=Hd hfr;have hs0:=hfr.size;clear hmp hown hfr a1 a2 a3 a4 a5 a6 FE FI K1 K2 K3 K4 ZE1 ZE2 ZI1 ZI2;refine(HP.out XW HF.out).mono ?_;rintro e w4⟨v,rfl,ho,f4⟩;have HO:=Hd ho;have F4:=Hd f4;obtain⟨sa,sc,rfl,s1,s2⟩:=SlK.shape ho.sl;have HSC:=Hd s2;have hmp4:=HM.out.fr0 f4;have ho2:=ho;clear ho f4 s2;have hbase:=ho2.base;have hmbx:p.mb<XW.heap.size:=HM.out.lt _ (.inr (.inr (.inl rfl)));have HMP4:=Hd hmp4;have HBX:=Hd (show∀b,(Value.slice sa ids.length sc).ownBlock=some b->¬b=p.mb from λb q e=>by have:=hbase b q;omega);clear hmp4 ho2 hbase hmbx
  go_wp2_with fail
  go_loopw [39] (λi wr=>∃k:Nat,k<=ids.length/\i=.int .i64 k/\MP wr p (λ_=>zF) (plK ids k) (belowB n) noneB 0 k/\Fr (λi=>i=p.mb) w4 wr) (λi _=>ids.length-(intOf i).toNat)
  case atStart=>exact⟨0,Nat.zero_le _,rfl,by rw[plK_0];exact HMP4.out,Fr.refl _ _⟩
  case round=>
   obtain⟨k,hk,rfl,hm5,f5⟩:=hrel;have HM5:=Hd hm5;have F5:=Hd f5;have c3:wr.cell? ⟨p.pb,3,none⟩=some (.map (some p.mb)):=hm5.ce 3 (by omega);have l5:=hm5.hd.lt;rw[HPB.out,HPM.out]at c3;rw[HPB.out]at l5;by_cases hlt:k<ids.length
   .obtain⟨b,off,c,ev5,q1,q2,q3,q4⟩:=(SlK.fr HO.out.sl f5 (λb q e=>HBX.out b q e)).at hlt
    simp only[Value.slice.injEq]at ev5;obtain⟨rfl,_,rfl⟩:=ev5;obtain⟨w6,r6,h6,g6⟩:=hm5.put (by omega) (HID.out _ (List.getElem_mem hlt)) (-1);rw[plK_next ids hlt]at h6;rw[HPM.out]at r6;have H6:=Hd h6;have G6:=Hd g6;generalize ids[k]=idk at*;clear hm5 f5 h6 g6;go_wp2
    go_roundw
    case rel=>exact⟨k+1,by omega,by go_num,H6.out,F5.out.trans G6.out (λi q=>.inl q)⟩
    case measure=>simp[intOf];omega
   .obtain rfl:k=ids.length:=by omega
    clear hm5 f5;go_wp2;go_returns;refine⟨p,HPN.out,HPD.out,HPR.out,by unfold PP.ptr;rw[HPB.out];rfl,by rw[<-plK_all];exact HM5.out.more (by omega),HW.out,?_⟩;refine(HF.out.trans F4.out (λ_ q=>q.elim)).trans F5.out (λi q=>.inr (by rw[q];exact HW.out _ (.inr (.inr (.inl rfl)))))
end
theorem emB_zero(n:Nat):emB n (λ_=>zF)=belowB n:=by funext i;unfold emB belowB;simp[zF]
theorem idB_zero(n:Nat):idB n (λ_=>zF)=noneB:=by funext i;unfold idB noneB;simp[zF]
theorem plO_zero(n:Nat)(r:RS)(h0:r.has 0=false):plO n (λ_=>zF) r=λid=>if id∈r.L.map (·.1)then some (-1)else none:=by
 funext id
 unfold plO;by_cases h:r.has id=true
 .rw[if_pos h,if_pos (show id∈r.L.map (·.1)from(r.has_iff id).1 h),frm_eq_none (λi hi q=>by rw[<-q]at h;rw[show(zF.id)=0 from rfl,h0]at h;cases h)]
  rfl
 .rw[if_neg h,if_neg (show¬id∈r.L.map (·.1)from λq=>h ((r.has_iff id).2 q))]
theorem pnew_pw{τ:Type}{RR:World->τ->(Nat->Prop)->Prop}{ok:Nat->τ->(Nat->Nat)->(Nat->Bool)->Prop}{a:τ}{n db m0:Nat}{r:RS}{rv iv0:Value}{it:TypeId}{w:World}{FD FA:Nat->Prop}(hcd:CD db r m0 w FD)(hm0:m0<=1000)(hrr:RR w a FA)(hfr:∀{w w':World},RR w a FA->Fr NoF w w'->RR w' a FA)(hlt:∀i,FA i->i<w.heap.size)
  (hs:∀i,FD i->¬FA i)(ht:TabT w)(ht1:¬FD 0/\¬FA 0)(hrv:rv=.iface it iv0)(hn:1<=n/\n<=65535)(hL:r.L.length<=1000)(hI:Inv n (λ_=>zF) r)(hok:ok 1000 a (λ_=>0) (λ_=>true)):
  Calls prog 19 #[.pointer (some ⟨db,0,none⟩),.int .i64 n,rv] w λe w'=>∃p:PP,p.n=n/\p.db=db/\p.rv=rv/\e=.returned (.tuple #[p.ptr,.int .i64 0])/\(∃F,PW RR ok p ⟨λ_=>zF,r,a,0⟩ 1000 w' F/\(∀i,F i->FD i\/FA i\/w.heap.size<=i))/\Fr NoF w w':=by
 have hroom:=hcd.room
 have hh0:r.has 0=false:=by
  cases e:r.has 0 with
  |false=>rfl
  |true=>have:=hI.pos e;omega
 refine(pnew_made n db hrv w hn ht (ids:=r.L.map (·.1)) (by rw[List.length_map];exact hL) (λx hx=>by
  obtain⟨y,hy,rfl⟩:=List.mem_map.1 hx;have:=hcd.ids y hy;omega) (λW hW=>cd_pages (hcd.fr0 hW))).mono ?_
 rintro e w'⟨p,h1,h2,h3,he,hmp,hown,hf⟩;refine⟨p,h1,h2,h3,he,⟨λi=>p.own i\/FD i\/FA i,⟨⟨FD,FA,⟨?_,by rw[h2];exact(hcd.fr0 hf).more hm0,hfr hrr hf,λi q=>⟨λk=>?_,λk=>?_⟩,hs,ht1⟩,λi=>Iff.rfl⟩,by rw[h1];exact hI,hok⟩,λi q=>?_⟩,hf⟩
 .show MP w' p (λ_=>zF) (plO p.n (λ_=>zF) r) (emB p.n (λ_=>zF)) (idB p.n (λ_=>zF)) 0 1000
  rw[emB_zero,idB_zero,plO_zero p.n r hh0,h1];exact hmp
 .have:=hown i q;have:=hcd.lt i k;omega
 .have:=hown i q;have:=hlt i k;omega
 .rcases q with q|q|q
  .exact .inr (.inr (hown i q))
  .exact .inl q
  .exact .inr (.inl q)
def tX0:PS (List Int):=⟨λ_=>zF,⟨9,[],[],[],0,0,false,0⟩,[],0⟩
def tX1:PS (List Int):=⟨upd (λ_=>zF) 0 ⟨1,0,1,false⟩,⟨9,[(1,0)],[],[],0,0,false,0⟩,[],0⟩
def tX2:PS (List Int):=⟨upd (upd (λ_=>zF) 0 ⟨1,0,1,false⟩) 0 ⟨1,0,0,false⟩,⟨9,[(1,0)],[],[],0,0,false,0⟩,[],0⟩
def tX3:PS (List Int):=⟨upd (upd (upd (upd (λ_=>zF) 0 ⟨1,0,1,false⟩) 0 ⟨1,0,0,false⟩) 0 zF) 0 ⟨2,0,1,false⟩,⟨9,[(1,0),(2,0)],[],[],0,0,false,0⟩,[],1⟩
theorem gap_0:gapOf []=0:=Gap.same (gapOf_is []) ⟨Nat.le_refl _,λj hj _=>absurd hj (Nat.not_lt_zero j),λhk=>absurd hk (Nat.lt_irrefl 0)⟩
theorem gap_1:gapOf [(1,0)]=1:=Gap.same (gapOf_is [(1,0)]) ⟨Nat.le_refl _,λj hj h=>by
 have e:j=0:=by omega
 subst e;rfl,λhk=>absurd hk (Nat.lt_irrefl 1)⟩
theorem t_np0:tX0.newPage advP 1=((1,0),tX1):=by
 unfold PS.newPage;rw[show tX0.D.L=[]from rfl,gap_0];rfl
theorem t_np1:tX1.newPage advP 1=((0,6),tX1):=by
 unfold PS.newPage;rw[show tX1.all 1=true from rfl];rfl
theorem t_un1:tX1.unpin advP 1 1=(0,tX2):=rfl
theorem t_np2:tX2.newPage advP 1=((2,0),tX3):=by
 unfold PS.newPage;rw[show tX2.D.L=[(1,0)]from rfl,gap_1];rfl
theorem t_fe3:tX3.fetch advP 1 1=(6,tX3):=rfl
theorem t_fr2:tX3.frame 1 2=0:=rfl
theorem t_fr1:tX3.frame 1 1= -1:=rfl
theorem t_hs1:tX3.D.has 1=true:=rfl
theorem t_inv:Inv 1 (λ_=>zF) tX0.D:=by
 refine⟨λi hi h=>rfl,λi hi h=>absurd rfl h,λi j hi hj h=>absurd rfl h,⟨dk0 9,?_⟩,λx hx=>(by cases hx),λi hi=>by decide⟩;exact⟨rfl,rfl,rfl,rfl,rfl,λq=>(by cases q),λid _ _=>rfl,λid _ _=>rfl,by show 0<=9;omega⟩
def Mine(R:World->(Nat->Prop)->Prop)(w0 w:World):Prop:=∃F,R w F/\(∀i,F i->w0.heap.size<=i)/\Fr NoF w0 w
theorem Mine.step{R R':World->(Nat->Prop)->Prop}{w0 w w':World}{F:Nat->Prop}(hF:∀i,F i->w0.heap.size<=i)(f:Fr NoF w0 w)(h:Led R' F w w'):Mine R' w0 w':=by
 obtain⟨F',h1,h2,h3⟩:=h;refine⟨F',h1,λi q=>?_,f.trans h2 (λi q=>.inr (hF i q))⟩;rcases h3 i q with q|q
 .exact hF i q
 .have:=f.size;omega
def okTd:Nat->List Int->(Nat->Nat)->(Nat->Bool)->Prop:=λ_ _ _ _=>True
def PAd(p:PP)(lb:Nat)(X:PS (List Int))(m:Nat):World->(Nat->Prop)->Prop:=λw F=>PW (AR lb) okTd p X m w F
section
variable{w0 w w':World}{p:PP}{lb m:Nat}{X Y:PS (List Int)}
theorem pad_sys(hr:p.rv=advV lb):RepSys advP (AR lb) p.pb p.rv p.n okTd:=by rw[hr];exact adv_sys p.pb lb p.n
theorem pad_np(hr:p.rv=advV lb)(hm:m<60000){a:Nat×Nat}(h:Mine (PAd p lb X m) w0 w)(he:X.newPage advP p.n=(a,Y)):Calls prog 22 #[p.ptr] w λe w'=>e=.returned (.tuple #[.int .u32 a.1,.int .i64 a.2])/\Mine (PAd p lb Y (m+10)) w0 w':=by
 obtain⟨F,h1,h2,h3⟩:=h;have:=np_calls (pad_sys hr) h1 hm;rw[he]at this;exact this.mono λe w' ⟨q1,q2⟩=>⟨q1,Mine.step (R:=PAd p lb X m) h2 h3 q2⟩
theorem pad_un(hr:p.rv=advV lb)(hm:m<60000){id a:Nat}(hu:id<4294967296)(h:Mine (PAd p lb X m) w0 w)(he:X.unpin advP p.n id=(a,Y)):Calls prog 23 #[p.ptr,.int .u32 id] w λe w'=>e=.returned (.int .i64 a)/\Mine (PAd p lb Y (m+10)) w0 w':=by
 obtain⟨F,h1,h2,h3⟩:=h;have:=un_calls (pad_sys hr) h1 hm hu;rw[he]at this;exact this.mono λe w' ⟨q1,q2⟩=>⟨q1,Mine.step (R:=PAd p lb X m) h2 h3 q2⟩
theorem pad_fe(hr:p.rv=advV lb)(hm:m<60000){id a:Nat}(hu:id<4294967296)(h:Mine (PAd p lb X m) w0 w)(he:X.fetch advP p.n id=(a,Y)):Calls prog 24 #[p.ptr,.int .u32 id] w λe w'=>e=.returned (.int .i64 a)/\Mine (PAd p lb Y (m+10)) w0 w':=by
 obtain⟨F,h1,h2,h3⟩:=h;have:=fe_calls (pad_sys hr) h1 hm hu;rw[he]at this;exact this.mono λe w' ⟨q1,q2⟩=>⟨q1,Mine.step (R:=PAd p lb X m) h2 h3 q2⟩
theorem pad_sc(h:Mine (PAd p lb X m) w0 w):Calls prog 8 #[p.ptr] w λe w'=>e=.returned (.int .i64 X.sc)/\w=w':=by
 obtain⟨F,h1,h2,h3⟩:=h;exact sc_calls h1
theorem pad_fr(h:Mine (PAd p lb X m) w0 w){id:Nat}(hu:id<4294967296):Calls prog 15 #[p.ptr,.int .u32 id] w λe w'=>e=.returned (.int .i64 (X.frame p.n id))/\w=w':=by
 obtain⟨F,h1,h2,h3⟩:=h;exact fr_calls h1 hu
theorem pad_hs(h:Mine (PAd p lb X m) w0 w){id:Nat}(hu:id<4294967296):Calls prog 10 #[p.ptr,.int .u32 id] w λe w'=>e=.returned (.bool (X.D.has id))/\w=w':=by
 obtain⟨F,h1,h2,h3⟩:=h;exact hs_calls h1 hu
theorem pad_new{db n m0:Nat}{r:RS}{l:List Int}{FD FA:Nat->Prop}(hcd:CD db r m0 w FD)(hm0:m0<=1000)(har:AR lb w l FA)(hs:∀i,FD i->¬FA i)(ht:TabT w)(ht1:¬FD 0/\¬FA 0)(hn:1<=n/\n<=65535)(hL:r.L.length<=1000)(hI:Inv n (λ_=>zF) r)(hF:∀i,FD i\/FA i->w0.heap.size<=i)(hf:Fr NoF w0 w):
  Calls prog 19 #[.pointer (some ⟨db,0,none⟩),.int .i64 n,advV lb] w λe w'=>∃p:PP,p.n=n/\p.db=db/\p.rv=advV lb/\e=.returned (.tuple #[p.ptr,.int .i64 0])/\Mine (PAd p lb ⟨λ_=>zF,r,l,0⟩ 1000) w0 w':=by
 refine(pnew_pw (RR:=AR lb) (ok:=okTd) hcd hm0 har (λh f=>h.fr f (λ_ _ q=>q)) har.lt hs ht ht1 rfl hn hL hI trivial).mono ?_;rintro e w'⟨p,h1,h2,h3,he,⟨F,h4,h5⟩,f⟩;refine⟨p,h1,h2,h3,he,F,h4,λi q=>?_,hf.trans f (λ_ q=>q.elim)⟩;rcases h5 i q with q|q|q
 .exact hF i (.inl q)
 .exact hF i (.inr q)
 .have:=hf.size;omega
theorem toldP_calls(hT:TabT w):Calls prog 6 #[] w λe w'=>e=.returned (.bool true)/\Fr NoF w w':=by
 have HT:=Hd hT;have htl:=hT.lt;clear hT;go_enter func6,ntmps6
 go_wp2_with fail
 refine(cd_new 9 _ (by omega) (by omega)).mono ?_;rintro e w1⟨db,FD,rfl,d1,d2,d3⟩;have D1:=Hd d1;have D2:=Hd d2;have D3:=Hd d3;clear d1 d2 d3
 go_wp2_with fail
 refine(advise_calls (v:=.slice none 0 0) (l:=[]) (SlC.nil _ _) (by show 0<=65535;omega)).mono ?_;rintro e w2⟨lb,FA,rfl,a1,a2,a3⟩;have HN:=Hd (pad_new (w0:=w) (n:=1) (D1.out.fr0 a3) (by omega) a1 (λi q k=>by have:=D1.out.lt i q;have:=a2 i k;omega) ((HT.out.fr0 D3.out).fr0 a3) ⟨λq=>by have:=D2.out _ q;omega,λq=>by have:=a2 _ q;have:=D3.out.size;omega⟩ ⟨by omega,by omega⟩ (by show 0<=1000;omega) t_inv (λi q=>q.elim (λq=>D2.out i q) (λq=>by have:=a2 i q;have:=D3.out.size;omega)) (D3.out.trans a3 (λ_ q=>q.elim)));clear a1 a2 a3 D1 D2 D3 htl HT
 go_wp2_with fail
 refine HN.out.mono ?_;clear HN;rintro e w3⟨p,hpn,hpd,hpr,rfl,h3⟩;have HR:=Hd hpr;have HP:=Hd hpn;have KN:=λa X Y m (q:m<60000) w4 (h:Mine (PAd p lb X m) w w4) he=>pad_np (a:=a) (Y:=Y) hpr q h he
 have H3:=Hd h3;have HQ:Hid (p.ptr=.pointer (some ⟨p.pb,0,none⟩)):=rfl;clear hpn hpd hpr h3 KN;unfold PP.ptr
 go_wp2_with fail
 refine(pad_np (a:=(1,0)) (Y:=tX1) HR.out (by omega) H3.out (by rw[HP.out];exact t_np0)).mono ?_;rintro e w4⟨rfl,h4⟩;have H4:=Hd h4;clear h4 H3
 go_wp2_with fail
 refine(pad_np (a:=(0,6)) (Y:=tX1) HR.out (by omega) H4.out (by rw[HP.out];exact t_np1)).mono ?_;rintro e w5⟨rfl,h5⟩;have H5:=Hd h5;clear h5 H4
 go_wp2_with fail
 refine(pad_un (id:=1) (a:=0) (Y:=tX2) HR.out (by omega) (by omega) H5.out (by rw[HP.out];exact t_un1)).mono ?_;rintro e w6⟨rfl,h6⟩;have H6:=Hd h6;clear h6 H5
 go_wp2_with fail
 refine(pad_np (a:=(2,0)) (Y:=tX3) HR.out (by omega) H6.out (by rw[HP.out];exact t_np2)).mono ?_;rintro e w7⟨rfl,h7⟩;have H7:=Hd h7;clear h7 H6
 go_wp2_with fail
 refine(pad_fe (id:=1) (a:=6) (Y:=tX3) HR.out (by omega) (by omega) H7.out (by rw[HP.out];exact t_fe3)).mono ?_;rintro e w8⟨rfl,h8⟩;have H8:=Hd h8;clear h8 H7
 go_wp2_with fail
 refine(pad_sc H8.out).mono ?_;rintro e w9⟨rfl,rfl⟩;rw[show tX3.sc=1 from rfl]
 go_wp2_with fail
 refine(pad_fr H8.out (id:=2) (by omega)).mono ?_;rintro e w9⟨rfl,rfl⟩;rw[HP.out,t_fr2]
 go_wp2_with fail
 refine(pad_fr H8.out (id:=1) (by omega)).mono ?_;rintro e w9⟨rfl,rfl⟩;rw[HP.out,t_fr1]
 go_wp2_with fail
 refine(pad_hs H8.out (id:=1) (by omega)).mono ?_;rintro e w9⟨rfl,rfl⟩;rw[t_hs1];go_wp2;go_returns;obtain⟨F,_,_,hf⟩:=H8.out;exact⟨rfl,hf⟩
end
end
end Go.Proofs.YtpkbkhffglikhaaGreatDoor
