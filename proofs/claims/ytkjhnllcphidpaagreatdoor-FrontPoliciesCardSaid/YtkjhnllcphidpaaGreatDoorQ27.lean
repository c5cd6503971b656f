/- Part 27. -/
import Derived.Test.YtkjhnllcphidpaaGreatDoorQ26
import Derived.Laws.EntriesVeiled
import Derived.Deep.Cut
namespace Go.Proofs.YtkjhnllcphidpaaGreatDoor
set_option linter.all false
set_option maxHeartbeats 16000000
set_option maxRecDepth 100000
section
open Go.Maps Go.Proofs.Tryz Go.RowKit
def nxV(b:Nat)(s:Nat):Value:=match s with
 |1=>.func (.func 130) #[.pointer (some ⟨b,0,none⟩)] #[]
 |2=>.func (.func 143) #[.pointer (some ⟨b,0,none⟩)] #[]
 |3=>.func (.func 150) #[.pointer (some ⟨b,0,none⟩)] #[]
 |_=>.nilFunc
def clC(i:Nat)(ov:Value)(d mb b s:Nat):Nat->Value:=λj=>match j with|0=>.int .i64 i|1=>ov|2=>.int .i64 d|3=>.map (some mb)|4=>nxV b s|_=>.nilFunc
theorem lB(i:Nat)(ov:Value)(d mb b s t:Nat):upd (clC i ov d mb b s) 4 (nxV b t)=clC i ov d mb b t:=by
 funext j
 unfold upd
 match j with
 |0|1|2|3|4=>rfl
 |_+5=>simp[clC]
theorem E3(i:Nat)(ov:Value)(d mb b s e:Nat):upd (clC i ov d mb b s) 2 (.int .i64 e)=clC i ov e mb b s:=by
 funext j
 unfold upd
 match j with
 |0|1|2|3|4=>rfl
 |_+5=>simp[clC]
theorem FX(b s:Nat):nxV b s=.nilFunc\/∃f,nxV b s=.func (.func f) #[.pointer (some ⟨b,0,none⟩)] #[]:=by
 match s with
 |0=>exact .inl rfl
 |1=>exact .inr ⟨_,rfl⟩
 |2=>exact .inr ⟨_,rfl⟩
 |3=>exact .inr ⟨_,rfl⟩
 |_+4=>exact .inl rfl
def go1(d n:Nat):Nat:=if d<n then 1 else 0
theorem kU{w:World}{b i d mb s n c:Nat}{a:Option Addr}(hd:d<=1000000)(hn:n<=1000000)(h:Blk w b 5 (clC i (.slice a n c) d mb b s)):
  Calls prog 116 #[.pointer (some ⟨b,0,none⟩)] w λe w'=>e=.returned (.tuple #[])/\Blk w' b 5 (clC i (.slice a n c) d mb b (go1 d n))/\Fr (λj=>j=b) w w':=by
 have c4:=h.cell (i:=4) (by omega);have z4:=h.frozen 4;have lb:=h.lt;have H0:Hid (Blk (w.setCell ⟨b,4,none⟩ .nilFunc) b 5 (clC i (.slice a n c) d mb b 0)):=Hd (by have q:=h.set 4 (nxV b 0);rw[lB]at q;exact q);have f0:Fr (λj=>j=b) w (w.setCell ⟨b,4,none⟩ .nilFunc):=(Fr.refl (λj=>j=b) w).setCell (p:=⟨b,4,none⟩) (.inl rfl) _;have F0:=Hd f0;generalize clC i (.slice a n c) d mb b s 4=x at*;clear h f0;go_enter func116,ntmps116
 go_upto_region 1 with fail
 clear c4 z4 lb;generalize w.setCell ⟨b,4,none⟩ .nilFunc=w1 at*;have c1:=H0.out.cell (i:=1) (by omega);have c2:=H0.out.cell (i:=2) (by omega);have c4:=H0.out.cell (i:=4) (by omega);have z4:=H0.out.frozen 4;have lb:=H0.out.lt;simp only[clC,nxV]at c1 c2 c4;have H1:Hid (∀q,Blk ((w1.drewN q).setCell ⟨b,4,none⟩ (nxV b 1)) b 5 (clC i (.slice a n c) d mb b 1)):=Hd λq=>by have q:=(H0.out.drewN q).set 4 (nxV b 1);rw[lB]at q;exact q
 have F1:Hid (∀q,Fr (λj=>j=b) w ((w1.drewN q).setCell ⟨b,4,none⟩ (nxV b 1))):=Hd λq=>(F0.out.drewN q).setCell (p:=⟨b,4,none⟩) (.inl rfl) _
 have HG:Hid (go1 d n=if d<n then 1 else 0):=Hd rfl;by_cases hl:d<n
 .have hlI:(d:Int)<(n:Int):=by omega
  have e1:go1 d n=1:=by rw[HG.out,if_pos hl]
  have E1:=Hd e1;clear e1 HG
  go_quiet (fail)
  go_wp2;go_returns;exact⟨rfl,by rw[E1.out];exact H1.out _,F1.out _⟩
 .have hlI:¬(d:Int)<(n:Int):=by omega
  have e1:go1 d n=0:=by rw[HG.out,if_neg hl]
  have E1:=Hd e1;clear e1 HG
  go_quiet (fail)
  go_wp2;go_returns;exact⟨rfl,by rw[E1.out];exact H0.out.drewN _,F0.out.drewN _⟩
def frC(pv cv:Value)(la:Option Nat)(lv:Value):Nat->Value:=λj=>match j with|0=>pv|1=>cv|2=>.pointer (la.map λb=>⟨b,0,none⟩)|3=>lv|_=>.nilFunc
theorem Ah(pv cv:Value)(la lb:Option Nat)(lv:Value):upd (frC pv cv la lv) 2 (.pointer (lb.map λb=>⟨b,0,none⟩))=frC pv cv lb lv:=by
 funext j
 unfold upd
 match j with
 |0|1|2|3=>rfl
 |_+4=>simp[frC]
theorem Bm{w:World}{b fb i d mb s:Nat}{ov pv cv lv:Value}(h:Blk w b 5 (clC i ov d mb b s))(hf:Blk w fb 4 (frC pv cv none lv))(ne:¬b=fb):
  Calls prog 130 #[.pointer (some ⟨b,0,none⟩),.pointer (some ⟨fb,0,none⟩)] w λe w'=>e=.returned (.bool true)/\Blk w' b 5 (clC i ov d mb b 2)/\Blk w' fb 4 (frC pv cv (some b) lv)/\Fr (λj=>j=b\/j=fb) w w':=by
 have g2:=hf.cell (i:=2) (by omega);have y2:=hf.frozen 2;have lf:=hf.lt;have c4:=h.cell (i:=4) (by omega);have z4:=h.frozen 4;have lb:=h.lt;simp only[frC,Option.map_none]at g2
 have HF:Hid (Blk ((w.setCell ⟨fb,2,none⟩ (.pointer (some ⟨b,0,none⟩))).setCell ⟨b,4,none⟩ (nxV b 2)) fb 4 (frC pv cv (some b) lv)):=Hd (by
  have q:=hf.set 2 (.pointer ((some b).map λb=>⟨b,0,none⟩));rw[Ah]at q;exact q.other (λe=>ne e.symm) _)
 have HC:Hid (Blk ((w.setCell ⟨fb,2,none⟩ (.pointer (some ⟨b,0,none⟩))).setCell ⟨b,4,none⟩ (nxV b 2)) b 5 (clC i ov d mb b 2)):=Hd (by
  have q:=(h.other (a:=⟨fb,2,none⟩) ne (.pointer (some ⟨b,0,none⟩))).set 4 (nxV b 2);rw[lB]at q;exact q)
 have F1:Hid (Fr (λj=>j=b\/j=fb) w ((w.setCell ⟨fb,2,none⟩ (.pointer (some ⟨b,0,none⟩))).setCell ⟨b,4,none⟩ (nxV b 2))):=Hd (((Fr.refl _ w).setCell (p:=⟨fb,2,none⟩) (.inl (.inr rfl)) _).setCell (p:=⟨b,4,none⟩) (.inl (.inl rfl)) _);generalize clC i ov d mb b s 4=x at*;clear h hf;go_enter func130,ntmps130;go_wp2;go_returns;exact⟨rfl,HC.out,HF.out,F1.out⟩
theorem Ch{w:World}{b fb k:Nat}{pv cv lv:Value}(hf:Blk w fb 4 (frC pv cv (some k) lv)):
  Calls prog 130 #[.pointer (some ⟨b,0,none⟩),.pointer (some ⟨fb,0,none⟩)] w λe w'=>e=.returned (.bool false)/\w=w':=by
 have g2:=hf.cell (i:=2) (by omega);have lf:=hf.lt;simp only[frC,Option.map_some]at g2;clear hf;go_enter func130,ntmps130;go_wp2;go_returns;exact⟨rfl,rfl⟩
theorem sJ{w:World}{b fb i d mb s n c:Nat}{a:Option Addr}{la:Option Nat}{pv cv lv:Value}(hd:d<=1000000)(hn:n<=1000000)(h:Blk w b 5 (clC i (.slice a n c) d mb b s))(hf:Blk w fb 4 (frC pv cv la lv))(ne:¬b=fb):
  Calls prog 150 #[.pointer (some ⟨b,0,none⟩),.pointer (some ⟨fb,0,none⟩)] w λe w'=>e=.returned (.bool true)/\Blk w' b 5 (clC i (.slice a n c) d mb b (go1 d n))/\Blk w' fb 4 (frC pv cv none lv)/\Fr (λj=>j=b\/j=fb) w w':=by
 have g2:=hf.cell (i:=2) (by omega);have y2:=hf.frozen 2;have lf:=hf.lt
 have HF:Hid (Blk (w.setCell ⟨fb,2,none⟩ (.pointer none)) fb 4 (frC pv cv none lv)):=Hd (by
  have q:=hf.set 2 (.pointer ((none:Option Nat).map λb=>⟨b,0,none⟩));rw[Ah]at q;exact q)
 have HC:Hid (Blk (w.setCell ⟨fb,2,none⟩ (.pointer none)) b 5 (clC i (.slice a n c) d mb b s)):=Hd (h.other (a:=⟨fb,2,none⟩) ne _);have F1:Hid (Fr (λj=>j=b\/j=fb) w (w.setCell ⟨fb,2,none⟩ (.pointer none))):=Hd ((Fr.refl _ w).setCell (p:=⟨fb,2,none⟩) (.inl (.inr rfl)) _);generalize frC pv cv la lv 2=x at*;clear h hf;go_enter func150,ntmps150
 go_wp2_with fail
 refine(kU hd hn HC.out).mono ?_;rintro e w1⟨rfl,h1,f1⟩;have H1:=Hd h1;have H2:=Hd (HF.out.fr f1 (λq=>ne q.symm));have H3:=Hd (F1.out.trans f1 (λj q=>.inl (.inl q)));clear h1 f1;go_wp2;go_returns;exact⟨rfl,H1.out,H2.out,H3.out⟩
structure OpF where
 k:Int
 id:Nat
 v:Nat
def OpF.ok(o:OpF):Prop:=o.id<4294967296/\o.v<18446744073709551616/\-9223372036854775808<=o.k/\o.k<=9223372036854775807
def OpF.val(o:OpF):Value:=.agg #[.int .i64 o.k,.int .u32 o.id,.int .u64 o.v]
theorem MVf:MV prog 110 42 3 .u32 (.int .i64 0):=⟨underlying110,underlying42,λw=>by kernel_rfl⟩
def aX(pin:Nat->Nat):Int->Option Value:=λx=>if x<0\/pin x.toNat=0 then none else some (.int .i64 (pin x.toNat:Nat))
theorem oA(pin:Nat->Nat)(id:Nat):aX pin (id:Int)=if pin id=0 then none else some (.int .i64 (pin id:Nat)):=by
 unfold aX;simp only[Int.toNat_natCast];by_cases h:pin id=0
 .rw[if_pos (.inr h),if_pos h]
 .rw[if_neg (by omega),if_neg h]
theorem fY(pin:Nat->Nat)(id:Nat):(aX pin (id:Int)).getD (.int .i64 0)=.int .i64 (pin id:Nat):=by
 rw[oA];by_cases h:pin id=0
 .rw[if_pos h,h];rfl
 .rw[if_neg h];rfl
theorem lG(pin:Nat->Nat)(id k:Nat)(hk:¬k=0):cC (aX pin) (id:Int) (some (.int .i64 (k:Nat)))=aX (upd pin id k):=by
 funext x
 unfold cC;by_cases h:x=(id:Int)
 .subst h
  rw[if_pos rfl,oA,upd_same,if_neg hk]
 .rw[if_neg h]
  unfold aX;by_cases hx:x<0
  .rw[if_pos (.inl hx),if_pos (.inl hx)]
  .rw[ab _ _ (show¬x.toNat=id by omega)]
theorem BL(pin:Nat->Nat)(id:Nat):cC (aX pin) (id:Int) none=aX (upd pin id 0):=by
 funext x
 unfold cC;by_cases h:x=(id:Int)
 .subst h
  rw[if_pos rfl,oA,upd_same,if_pos rfl]
 .rw[if_neg h]
  unfold aX;by_cases hx:x<0
  .rw[if_pos (.inl hx),if_pos (.inl hx)]
  .rw[ab _ _ (show¬x.toNat=id by omega)]
theorem rQ{id:Nat}(h:id<4294967296):(Lit.int .u32 (id:Int)).wf=true:=by simp[Lit.wf,IntKind.min,IntKind.max,IntKind.signed,IntKind.bits];omega
def jS(o:OpF)(pin:Nat->Nat):Bool:=decide (o.k=2\/o.k=3\/o.k=4)&&decide (pin o.id=0)
theorem jO{w:World}{b i d mb s cnt:Nat}{ov:Value}{pin:Nat->Nat}{o:OpF}(ho:o.ok)(h:Blk w b 5 (clC i ov d mb b s))(hm:MpV prog 42 .u32 (.int .i64 0) w mb cnt (aX pin)):
  Calls prog 152 #[.pointer (some ⟨b,0,none⟩),o.val] w λe w'=>e=.returned (.bool (jS o pin))/\Fr NoF w w':=by
 obtain⟨k,pg,v⟩:=o;have hwf:=rQ ho.1;have HA:Fr NoF w (w.alloc (.cells #[.int .i64 k,.int .u32 (pg:Nat),.int .u64 (v:Nat)] 50)):=(Fr.refl NoF w).alloc _;have h1:=(hm.fr (HA.drew) id).look_run MVf hwf;rw[fY]at h1;have c3:=(h.fr HA id).cell (i:=3) (by omega);have lb:=(h.fr HA id).lt;simp only[clC]at c3;have HL:Hid (jS ⟨k,pg,v⟩ pin=(decide (k=2\/k=3\/k=4)&&decide (pin pg=0))):=Hd rfl;have FA:=Hd HA;have hid0:=ho.1;generalize pin pg=pn at*;clear h hm HA ho;unfold OpF.val;go_enter func152,ntmps152;have hk:k=2\/k=3\/k=4\/¬(k=2\/k=3\/k=4):=by omega
 have e1:decide (pn=0)=((pn:Int)==0):=by rw[Bool.eq_iff_iff];simp
 have E1:=Hd e1;clear e1;rcases hk with rfl|rfl|rfl|hk
 all_goals have HZ:=Hd (congrArg (λz=>Ending.returned (Value.bool z)) HL.out)
 .go_wp2_with fail
  go_region
  go_wp2;go_returns;exact⟨by rw[HZ.out,E1.out];rfl,FA.out.drew⟩
 .go_wp2_with fail
  go_region
  go_wp2;go_returns;exact⟨by rw[HZ.out,E1.out];rfl,FA.out.drew⟩
 .go_wp2_with fail
  go_region
  go_wp2;go_returns;exact⟨by rw[HZ.out,E1.out];rfl,FA.out.drew⟩
 .have b2:¬k=2:=λq=>hk (.inl q)
  have b3:¬k=3:=λq=>hk (.inr (.inl q))
  have b4:¬k=4:=λq=>hk (.inr (.inr q))
  have HK:=Hd hk;clear hk;go_wp2;go_returns;exact⟨by rw[HZ.out,decide_eq_false HK.out];rfl,FA.out⟩
structure AnF where
 e:Nat
 id:Nat
 v:Nat
def AnF.val(a:AnF):Value:=.agg #[.int .i64 (a.e:Nat),.int .u32 (a.id:Nat),.int .u64 (a.v:Nat)]
def AnF.ok(a:AnF):Prop:=a.e<9/\a.id<4294967296/\a.v<18446744073709551616
abbrev aG(w:World)(mb cnt:Nat)(m:Int->Option Value):Prop:=MpV prog 42 .u32 (.int .i64 0) w mb cnt m
theorem th{w:World}{b i d mb s cnt:Nat}{ov:Value}{pin:Nat->Nat}{o:OpF}{a:AnF}(ha:a.id<4294967296)(hc:cnt<100000)(hp:pin a.id<100000)(h:Blk w b 5 (clC i ov d mb b s))(hm:aG w mb cnt (aX pin))(ne:¬b=mb):
  Calls prog 155 #[.pointer (some ⟨b,0,none⟩),o.val,a.val] w λe w'=>e=.returned (.tuple #[])/\(∃cnt',cnt'<=cnt+1/\aG w' mb cnt' (aX (upd pin a.id (pin a.id+1))))/\Fr (λj=>j=mb) w w':=by
 obtain⟨k,og,v⟩:=o;obtain⟨er,pg,av⟩:=a;have hwf:=rQ ha;have HA:Fr NoF w ((w.alloc (.cells #[.int .i64 k,.int .u32 (og:Nat),.int .u64 (v:Nat)] 50)).alloc (.cells #[.int .i64 (er:Nat),.int .u32 (pg:Nat),.int .u64 (av:Nat)] 47)):=((Fr.refl NoF w).alloc _).alloc _;have hmd:=hm.fr (HA.drew) (λq=>q);have h1:=hmd.look_run MVf hwf;rw[fY]at h1;obtain⟨w2,hrun,m1,m2⟩:=hmd.put_run MVf (by omega) hwf (.int .i64 (pin pg+1:Nat));rw[lG _ _ _ (by omega)]at m1;have R1:Hid (∃cnt',cnt'<=cnt+1/\aG w2 mb cnt' (aX (upd pin pg (pin pg+1)))):=Hd ⟨_,by split<;>omega,m1⟩;have R2:Hid (Fr (λj=>j=mb) w w2):=Hd ((HA.drew.none).trans m2 (λj q=>.inl q));have c3:=(h.fr HA (λq=>q)).cell (i:=3) (by omega);have lb:=(h.fr HA (λq=>q)).lt;simp only[clC]at c3;have e1:IntKind.i64.wrap ((pin pg:Int)+1)=((pin pg+1:Nat):Int):=by rw[IntWalk.i64_in _ (by have:=hp;simp only at this;omega)];omega
 generalize hq:pin pg+1=pn1 at*;generalize pin pg=pn at*;clear h hm HA ha m1 m2 hmd hp hq;unfold OpF.val AnF.val;go_enter func155,ntmps155
 go_wp2_with fail
 go_region
 go_returns;exact⟨rfl,R1.out,R2.out⟩
theorem mW{w:World}{b i d mb s cnt:Nat}{ov:Value}{pin:Nat->Nat}{o:OpF}{a:AnF}(ho:o.ok)(hc:cnt<100000)(hp:pin o.id<100000)(h:Blk w b 5 (clC i ov d mb b s))(hm:aG w mb cnt (aX pin))(ne:¬b=mb):
  Calls prog 156 #[.pointer (some ⟨b,0,none⟩),o.val,a.val] w λe w'=>e=.returned (.tuple #[])/\(∃cnt',cnt'<=cnt+1/\aG w' mb cnt' (aX (upd pin o.id (pin o.id+1))))/\Fr (λj=>j=mb) w w':=by
 obtain⟨k,pg,v⟩:=o;obtain⟨er,ag,av⟩:=a;have hwf:=rQ ho.1;have HA:Fr NoF w ((w.alloc (.cells #[.int .i64 k,.int .u32 (pg:Nat),.int .u64 (v:Nat)] 50)).alloc (.cells #[.int .i64 (er:Nat),.int .u32 (ag:Nat),.int .u64 (av:Nat)] 47)):=((Fr.refl NoF w).alloc _).alloc _;have hmd:=hm.fr (HA.drew) (λq=>q);have h1:=hmd.look_run MVf hwf;rw[fY]at h1;obtain⟨w2,hrun,m1,m2⟩:=hmd.put_run MVf (by omega) hwf (.int .i64 (pin pg+1:Nat));rw[lG _ _ _ (by omega)]at m1;have R1:Hid (∃cnt',cnt'<=cnt+1/\aG w2 mb cnt' (aX (upd pin pg (pin pg+1)))):=Hd ⟨_,by split<;>omega,m1⟩;have R2:Hid (Fr (λj=>j=mb) w w2):=Hd ((HA.drew.none).trans m2 (λj q=>.inl q));have c3:=(h.fr HA (λq=>q)).cell (i:=3) (by omega);have lb:=(h.fr HA (λq=>q)).lt;simp only[clC]at c3;have e1:IntKind.i64.wrap ((pin pg:Int)+1)=((pin pg+1:Nat):Int):=by rw[IntWalk.i64_in _ (by have:=hp;simp only at this;omega)];omega
 generalize hq:pin pg+1=pn1 at*;generalize pin pg=pn at*;clear h hm HA ho m1 m2 hmd hp hq;unfold OpF.val AnF.val;go_enter func156,ntmps156
 go_wp2_with fail
 go_region
 go_returns;exact⟨rfl,R1.out,R2.out⟩
theorem lK{w:World}{b i d mb s cnt:Nat}{ov:Value}{pin:Nat->Nat}{o:OpF}{a:AnF}(ho:o.ok)(hc:cnt<100000)(hp:pin o.id<100000)(hp1:1<=pin o.id)(h:Blk w b 5 (clC i ov d mb b s))(hm:aG w mb cnt (aX pin))(ne:¬b=mb):
  Calls prog 157 #[.pointer (some ⟨b,0,none⟩),o.val,a.val] w λe w'=>e=.returned (.tuple #[])/\(∃cnt',cnt'<=cnt+1/\aG w' mb cnt' (aX (upd pin o.id (pin o.id-1))))/\Fr (λj=>j=mb) w w':=by
 obtain⟨k,pg,v⟩:=o;obtain⟨er,ag,av⟩:=a;have hwf:=rQ ho.1
 have hB0:Blk (w.alloc (.cells #[.int .i64 k,.int .u32 (pg:Nat),.int .u64 (v:Nat)] 50)) w.heap.size 3 (λj=>match j with|0=>.int .i64 k|1=>.int .u32 (pg:Nat)|_=>.int .u64 (v:Nat)):=Blk.new _ _ _ 3 _ _ rfl rfl (λi hi=>by
  match i,hi with
  |0,_|1,_|2,_=>rfl)
 have HA:Fr NoF w ((w.alloc (.cells #[.int .i64 k,.int .u32 (pg:Nat),.int .u64 (v:Nat)] 50)).alloc (.cells #[.int .i64 (er:Nat),.int .u32 (ag:Nat),.int .u64 (av:Nat)] 47)):=((Fr.refl NoF w).alloc _).alloc _;have hmd:=hm.fr (HA.drew) (λq=>q);have h1:=hmd.look_run MVf hwf;rw[fY]at h1;have hmw:=hm.lt;obtain⟨w2,hrun,m1,m2⟩:=hmd.put_run MVf (by omega) hwf (.int .i64 (pin pg-1:Nat));have hB2:Blk w2 w.heap.size 3 (λj=>match j with|0=>.int .i64 k|1=>.int .u32 (pg:Nat)|_=>.int .u64 (v:Nat)):=((hB0.alloc _).drew).fr m2 (λq=>by omega);have hC2:Blk w2 b 5 (clC i ov d mb b s):=(h.fr HA.drew (λq=>q)).fr m2 (λq=>ne q);have hcn:(if(aX pin (pg:Int)).isSome=true then cnt else cnt+1)<=cnt+1:=by split<;>omega
 have R2:Hid (Fr (λj=>j=mb) w w2):=Hd ((HA.drew.none).trans m2 (λj q=>.inl q));generalize(if(aX pin (pg:Int)).isSome=true then cnt else cnt+1)=cn2 at*;have m1d:=m1.fr ((Fr.refl NoF w2).drew) (λq=>q);have h2:=m1d.look_run MVf hwf;rw[dX]at h2;have g3:=hC2.cell (i:=3) (by omega);have g4:=hB2.cell (i:=1) (by omega);have l2:=hC2.lt;have l3:=hB2.lt;have c3:=(h.fr HA (λq=>q)).cell (i:=3) (by omega);have lb:=(h.fr HA (λq=>q)).lt;simp only[clC]at c3 g3 g4;simp only[Option.getD_some]at h2;have e1:IntKind.i64.wrap ((pin pg:Int)-1)=((pin pg-1:Nat):Int):=by rw[IntWalk.i64_in _ (by have:=hp;have:=hp1;simp only at*;omega)];have:=hp1;simp only at this;omega
 by_cases hz:pin pg-1=0
 .obtain⟨w3,hdel,n1,n2⟩:=(m1d.fr ((Fr.refl NoF w2.drew).drew) (λq=>q)).del_run MVf hwf 0
  have em:cC (cC (aX pin) (pg:Int) (some (.int .i64 (pin pg-1:Nat)))) (pg:Int) none=aX (upd pin pg (pin pg-1)):=by
   rw[hz,<-BL]
   funext x
   unfold cC
   split<;>rfl
  rw[em]at n1;have R1:Hid (∃cnt',cnt'<=cnt+1/\aG w3 mb cnt' (aX (upd pin pg (pin pg-1)))):=Hd ⟨_,by split<;>omega,n1⟩;have R3:Hid (Fr (λj=>j=mb) w w3):=Hd (R2.out.trans ((((Fr.refl NoF w2).drew).drew).none.trans n2 (λj q=>.inl q)) (λj q=>.inl q));have hzI:((pin pg-1:Nat):Int)=0:=by omega
  generalize pin pg-1=pn1 at*;generalize pin pg=pn at*;have HZI:=Hd hzI;clear hz hzI;clear h hm HA ho m1 m2 hmd hp hp1 hB0 hB2 hC2 m1d n1 n2 hcn em;unfold OpF.val AnF.val;go_enter func157,ntmps157
  go_wp2_with fail
  go_region
  go_wp2_with fail
  have hzI:=HZI.out
  go_region
  go_wp2_with fail
  clear hzI
  go_region
  go_returns;exact⟨rfl,R1.out,R3.out⟩
 .rw[lG _ _ _ hz]at m1
  have R1:Hid (∃cnt',cnt'<=cnt+1/\aG w2.drew mb cnt' (aX (upd pin pg (pin pg-1)))):=Hd ⟨_,hcn,m1.fr ((Fr.refl NoF w2).drew) (λq=>q)⟩;have R3:Hid (Fr (λj=>j=mb) w w2.drew):=Hd R2.out.drew;have hzI:¬((pin pg-1:Nat):Int)=0:=by omega
  generalize pin pg-1=pn1 at*;generalize pin pg=pn at*;have HZI:=Hd hzI;clear hz hzI;clear h hm HA ho m1 m2 hmd hp hp1 hB0 hB2 hC2 m1d hcn;unfold OpF.val AnF.val;go_enter func157,ntmps157
  go_wp2_with fail
  go_region
  go_wp2_with fail
  have hzI:=HZI.out
  go_region
  go_wp2;go_returns;exact⟨rfl,R1.out,R3.out⟩
theorem MVc:MV prog 269 3 267 .i64 .nilFunc:=⟨underlying269,underlying3,λw=>by kernel_rfl⟩
def cntM:Int->Option Value:=cC (cC (cC (λ_=>none) 0 (some (.func (.func 155) #[] #[]))) 1 (some (.func (.func 156) #[] #[]))) 2 (some (.func (.func 157) #[] #[]))
theorem Gr{x:Int}(h: -9223372036854775808<=x/\x<=9223372036854775807):(Lit.int .i64 x).wf=true:=by simp[Lit.wf,IntKind.min,IntKind.max,IntKind.signed,IntKind.bits];omega
theorem lW(w:World):Calls prog 154 #[] w λe w'=>e=.returned (.map (some w.heap.size))/\(∃c,MpV prog 3 .i64 .nilFunc w' w.heap.size c cntM)/\Fr NoF w w':=by
 have m0:=MpV.made prog 3 .i64 .nilFunc w;obtain⟨w1,r1,m1,f1⟩:=m0.put_run MVc (by omega) (x:=0) (by decide) (.func (.func 155) #[] #[]);obtain⟨w2,r2,m2,f2⟩:=m1.put_run MVc (by split<;>omega) (x:=1) (by decide) (.func (.func 156) #[] #[]);obtain⟨w3,r3,m3,f3⟩:=m2.put_run MVc (by repeat(first|omega|split)) (x:=2) (by decide) (.func (.func 157) #[] #[]);have HM:Hid (∃c,MpV prog 3 .i64 .nilFunc w3 w.heap.size c cntM):=Hd ⟨_,m3⟩;have HF:Hid (Fr NoF w w3):=Hd ((((Fr.refl NoF w).alloc (.map #[] 0)).trans f1 (λj q=>.inr (Nat.le_of_eq q.symm))).trans f2 (λj q=>.inr (Nat.le_of_eq q.symm))|>.trans f3 (λj q=>.inr (Nat.le_of_eq q.symm)));clear m0 m1 m2 m3 f1 f2 f3;have hmm:=@run_makeMap prog;go_enter func154,ntmps154;go_wp2;go_returns;exact⟨rfl,HM.out,HF.out⟩
end
section
open Go.Proofs.Tryz Go.RowKit
def i6(S S':Nat->Bool)(k:Nat):Nat->Nat->Bool:=λi=>if i<k then lev S' i else lev S i
theorem yV(S S':Nat->Bool):i6 S S' 0=lev S:=by funext i;unfold i6;rw[if_neg (by omega)]
theorem ki(S S':Nat->Bool)(k:Nat):i6 S S' k k=lev S k:=by unfold i6;rw[if_neg (by omega)]
theorem nX(S S':Nat->Bool)(k:Nat):zE (i6 S S' k) k (lev S' k)=i6 S S' (k+1):=by
 funext i
 unfold zE i6;by_cases e:i=k
 .subst e;rw[if_pos rfl,if_pos (by omega)]
 .rw[if_neg e]
  by_cases q:i<k
  .rw[if_pos q,if_pos (by omega)]
  .rw[if_neg q,if_neg (by omega)]
theorem qc(y:Nat):IntKind.u64.wrap (2^(y%64))=((2^(y%64):Nat):Int):=by
 have hp:2^(y%64)<2^64:=Nat.pow_lt_pow_right (by omega) (Nat.mod_lt _ (by omega));rw[IntKind.wrap_u64];have:((2:Int)^(y%64))=((2^(y%64):Nat):Int):=by simp
 rw[this];clear this;generalize 2^(y%64)=p at*;have hp':p<18446744073709551616:=hp;omega
theorem Cd{W:Nat}(hW:W<18446744073709551616)(y:Nat):bits BinOp.or IntKind.u64 (W:Int) (IntKind.u64.wrap (2^(y%64)))=((W|||2^(y%64):Nat):Int):=by
 have hp:2^(y%64)<2^64:=Nat.pow_lt_pow_right (by omega) (Nat.mod_lt _ (by omega));rw[qc,u64_or_nat _ _ hW (by omega)]
theorem pU{W:Nat}(hW:W<18446744073709551616)(y:Nat):bits BinOp.andNot IntKind.u64 (W:Int) (IntKind.u64.wrap (2^(y%64)))=((W&&&(18446744073709551615-2^(y%64)):Nat):Int):=by
 have hp:2^(y%64)<2^64:=Nat.pow_lt_pow_right (by omega) (Nat.mod_lt _ (by omega));rw[qc,u64_andNot_nat _ _ hW (by omega)]
section
variable{w w':World}{b off N bound L:Nat}{c:Nat->Value}{S:Nat->Bool}{v:Value}{h:Nat->Nat}{T:Nat->Nat->Bool}
def SF(b:Nat)(v:Value)(h:Nat->Nat)(L:Nat):Nat->Prop:=λk=>k=b\/LF v h L k
theorem CG(H:LC w b off N c bound S v h L){x:Nat}(hx:x<bound):∀y,ao S x true y=true->y<bound:=by
 intro y hy;by_cases e:y=x
 .omega
 .rw[az _ _ e]at hy;exact H.ls.dom y hy
theorem AN(H:LC w b off N c bound S v h L)(x:Nat):∀y,ao S x false y=true->y<bound:=by
 intro y hy;by_cases e:y=x
 .subst e;rw[aN]at hy;cases hy
 .rw[az _ _ e]at hy;exact H.ls.dom y hy
theorem sC(H:LC w b off N c bound S v h L){x:Nat}(hx:x<bound)(hS:S x=false):Calls prog 73 #[.pointer (some ⟨b,off,none⟩),.int .i64 x] w λe w'=>e=.returned (.tuple #[])/\LC w' b off N (upd c (off+1) (.int .i64 ((cntB S bound:Nat)+1:Int))) bound (ao S x true) v h L/\Fr (SF b v h L) w w':=by
 have hHas:=Hd (ui H hx);rw[hS]at hHas;have q0:=H.cell0;have q1:=H.cell1;have q2:=H.cell2;have lb:=H.blk.lt;have fb:=H.blk.frozen (off+1);have hL:=H.ls.r.one;have hL4:=H.ls.r.small;have hhi:=H.ls.r.hi;have hcnt:=pi S bound;have HD:=Hd (CG H hx);have HNB:=Hd H.nb;have HC:=Hd (And.intro H.c0 H.c2);have hinb:=H.inb;have HCN:=Hd (iI S hS bound hx);have HDV:=Hd (λk=>vy hx k);have f1:Fr (λk=>k=b) w (w.setCell ⟨b,off+1,none⟩ (.int .i64 ((cntB S bound:Nat)+1:Int))):=(Fr.refl (λk=>k=b) w).setCell (p:=⟨b,off+1,none⟩) (.inl rfl) _;have HR0:=Hd (H.ls.r.fr f1 (λk hk e=>H.nb (e▸hk)));have HB0:=Hd (H.blk.set (off+1) (.int .i64 ((cntB S bound:Nat)+1:Int)));have HF0:=Hd f1;obtain⟨g,cap,rfl,g1,g2⟩:=H.ls.r.shape;have hx0:decide ((x:Int)<0)=false:=by simp
 have hx1:decide ((bound:Int)<=(x:Int))=false:=by simpa using hx
 have hwc:IntKind.i64.wrap ((cntB S bound:Nat)+1:Int)=((cntB S bound+1:Nat):Int):=IntWalk.i64_in _ (by omega);generalize cntB S bound=cn at*;clear H hS f1;go_enter func73,ntmps73
 go_wp2_with fail
 refine hHas.out.mono ?_;rintro e w0⟨rfl,rfl⟩;clear hHas;go_wp2
 go_loopw [1,33] (λxv iv wr=>∃k:Nat,k<=L/\iv=.int .i64 k/\xv=.int .i64 (dv x k:Nat)/\Hid (LR wr bound (.slice (some ⟨g,0,none⟩) L cap) h L (i6 S (ao S x true) k))/\Hid (Blk wr b N (upd c (off+1) (.int .i64 ((cn:Nat)+1:Int))))/\Hid (Fr (SF b (.slice (some ⟨g,0,none⟩) L cap) h L) w wr)) (λ_ iv _=>L-(intOf iv).toNat)
 case atStart=>exact⟨0,Nat.zero_le _,rfl,rfl,by rw[yV];exact HR0.out,HB0.out,HF0.out.mono (λi q=>.inl q)⟩
 case round=>
  obtain⟨k,hk,rfl,rfl,HR,HB,HF⟩:=hrel;by_cases hlt:k<L
  .obtain⟨r0,r1,r2,r3,r6,r4,r5⟩:=HR.out.at hlt (HDV.out k)
   rw[ki]at r3
   have HST:Hid (LR (wr.setCell ⟨h k,dv x k/64,none⟩ (.int .u64 ((wordOf (lev S k) (dv x k/64)|||2^(dv x k%64):Nat):Int))) bound (.slice (some ⟨g,0,none⟩) L cap) h L (i6 S (ao S x true) (k+1))):=by
    have:=HR.out.set hlt (x:=dv x k) true;rw[ki,uu,<-uI,nX]at this;exact this
   have fst:Fr (SF b (.slice (some ⟨g,0,none⟩) L cap) h L) w (wr.setCell ⟨h k,dv x k/64,none⟩ (.int .u64 ((wordOf (lev S k) (dv x k/64)|||2^(dv x k%64):Nat):Int))):=HF.out.setCell (p:=⟨h k,dv x k/64,none⟩) (.inl (.inr (.inr ⟨k,hlt,rfl⟩))) _;have HFS:=Hd fst;have HBS:Hid (Blk (wr.setCell ⟨h k,dv x k/64,none⟩ (.int .u64 ((wordOf (lev S k) (dv x k/64)|||2^(dv x k%64):Nat):Int))) b N (upd c (off+1) (.int .i64 ((cn:Nat)+1:Int)))):=HB.out.other (λe=>HNB.out (.inr ⟨k,hlt,e.symm⟩)) _;have hW:=df (lev S k) (dv x k/64);clear HR HB HF fst;generalize wordOf (lev S k) (dv x k/64)=W at*;generalize h k=hb at*;have HY:Hid (dv x (k+1)=dv x k/64):=rfl;have hyb:dv x k<=65535:=by have:=AK x k;omega
   generalize dv x k=y at*;have hw1:IntKind.i64.wrap ((y:Int)/64)=(y:Int)/64:=IntWalk.i64_in _ (by omega);have hi0:0<=(y:Int)/64:=by omega
   have hi1:(y:Int)/64<(szs bound k:Nat):=by omega
   have hi2:((y:Int)/64).toNat=y/64:=by omega
   have key:bits BinOp.or IntKind.u64 (W:Int) (IntKind.u64.wrap (2^(y%64)))=((W|||2^(y%64):Nat):Int):=Cd hW y;go_wp2
   go_region
   go_wp2
   go_roundw
   case rel=>exact⟨k+1,by omega,by go_num,by rw[HY.out];go_num,HST.out.fr ((Fr.refl NoF _).drew) (λ_ _ q=>q),HBS.out.drew,HFS.out.drew⟩
   case measure=>simp[intOf];omega
  .obtain rfl:k=L:=by omega
   clear hlt;go_wp2;go_returns;exact⟨rfl,⟨HB.out,hinb,by rw[ab _ _ (by omega)];exact HC.out.1,by rw[upd_same,HCN.out];rfl,by rw[ab _ _ (by omega)];exact HC.out.2,⟨HR.out.congr (λi hi=>by unfold i6;rw[if_pos hi]),HD.out⟩,HNB.out⟩,HF.out⟩
theorem uU(H:LC w b off N c bound S v h L){x:Int}(hS:gQ S x=false):Calls prog 91 #[.pointer (some ⟨b,off,none⟩),.int .i64 x] w λe w'=>e=.returned (.tuple #[])/\w=w':=by
 have hHas:=Hd (nW H x);rw[hS]at hHas;clear H hS;go_enter func91,ntmps91
 go_wp2_with fail
 refine hHas.out.mono ?_;rintro e w0⟨rfl,rfl⟩;go_wp2;go_returns;exact⟨rfl,rfl⟩
theorem A7{S S':Nat->Bool}{k:Nat}(e:lev S' k=lev S k):∀i,k<=i->lev S' i=lev S i:=by
 intro i hi
 induction i with
 |zero=>obtain rfl:k=0:=by omega
        exact e
 |succ i ih=>
  by_cases q:k=i+1
  .subst q;exact e
  .show up (lev S' i)=up (lev S i)
   rw[ih (by omega)]
theorem vE(H:LC w b off N c bound S v h L){x:Nat}(hS:S x=true):Calls prog 91 #[.pointer (some ⟨b,off,none⟩),.int .i64 x] w λe w'=>e=.returned (.tuple #[])/\LC w' b off N (upd c (off+1) (.int .i64 ((cntB S bound:Nat)-1:Int))) bound (ao S x false) v h L/\Fr (SF b v h L) w w':=by
 have hx:x<bound:=H.ls.dom x hS;have hHas:=Hd (ui H hx);rw[hS]at hHas;have q1:=H.cell1;have q2:=H.cell2;have lb:=H.blk.lt;have fb:=H.blk.frozen (off+1);have hL:=H.ls.r.one;have hL4:=H.ls.r.small;have hhi:=H.ls.r.hi;have hcnt:=pi S bound;have HD:=Hd (AN H x);have HNB:=Hd H.nb;have HC:=Hd (And.intro H.c0 H.c2);have hinb:=H.inb;have hcn:=gK S hS bound hx;have HCN:=Hd hcn;have HDV:=Hd (λk=>vy hx k);have f1:Fr (λk=>k=b) w (w.setCell ⟨b,off+1,none⟩ (.int .i64 ((cntB S bound:Nat)-1:Int))):=(Fr.refl (λk=>k=b) w).setCell (p:=⟨b,off+1,none⟩) (.inl rfl) _;have HR0:=Hd (H.ls.r.fr f1 (λk hk e=>H.nb (e▸hk)));have HB0:=Hd (H.blk.set (off+1) (.int .i64 ((cntB S bound:Nat)-1:Int)));have HF0:=Hd f1;obtain⟨g,cap,rfl,g1,g2⟩:=H.ls.r.shape;have hc1:1<=cntB S bound:=by omega
 clear hcn;generalize cntB S bound=cn at*;have hwc:IntKind.i64.wrap ((cn:Int)-1)=(cn:Int)-1:=IntWalk.i64_in _ (by omega);clear H hS f1;go_enter func91,ntmps91
 go_wp2_with fail
 refine hHas.out.mono ?_;rintro e w0⟨rfl,rfl⟩;clear hHas;go_wp2
 go_loopw [1,22] (λxv iv wr=>∃k:Nat,k<=L/\iv=.int .i64 k/\xv=.int .i64 (dv x k:Nat)/\Hid (lev (ao S x false) k=ao (lev S k) (dv x k) false)/\Hid (LR wr bound (.slice (some ⟨g,0,none⟩) L cap) h L (i6 S (ao S x false) k))/\Hid (Blk wr b N (upd c (off+1) (.int .i64 ((cn:Nat)-1:Int))))/\Hid (Fr (SF b (.slice (some ⟨g,0,none⟩) L cap) h L) w wr)) (λ_ iv _=>L-(intOf iv).toNat)
 case atStart=>exact⟨0,Nat.zero_le _,rfl,rfl,rfl,by rw[yV];exact HR0.out,HB0.out,HF0.out.mono (λi q=>.inl q)⟩
 case round=>
  obtain⟨k,hk,rfl,rfl,HLV,HR,HB,HF⟩:=hrel;by_cases hlt:k<L
  .obtain⟨r0,r1,r2,r3,r6,r4,r5⟩:=HR.out.at hlt (HDV.out k)
   rw[ki]at r3
   have HST:Hid (LR (wr.setCell ⟨h k,dv x k/64,none⟩ (.int .u64 ((wordOf (ao (lev S k) (dv x k) false) (dv x k/64):Nat):Int))) bound (.slice (some ⟨g,0,none⟩) L cap) h L (i6 S (ao S x false) (k+1))):=by
    have:=HR.out.set hlt (x:=dv x k) false;rw[ki,<-HLV.out,nX,HLV.out]at this;exact this
   have fst:Fr (SF b (.slice (some ⟨g,0,none⟩) L cap) h L) w (wr.setCell ⟨h k,dv x k/64,none⟩ (.int .u64 ((wordOf (ao (lev S k) (dv x k) false) (dv x k/64):Nat):Int))):=HF.out.setCell (p:=⟨h k,dv x k/64,none⟩) (.inl (.inr (.inr ⟨k,hlt,rfl⟩))) _;have HFS:=Hd fst;have HBS:Hid (Blk (wr.setCell ⟨h k,dv x k/64,none⟩ (.int .u64 ((wordOf (ao (lev S k) (dv x k) false) (dv x k/64):Nat):Int))) b N (upd c (off+1) (.int .i64 ((cn:Nat)-1:Int)))):=HB.out.other (λe=>HNB.out (.inr ⟨k,hlt,e.symm⟩)) _;have hW:=df (lev S k) (dv x k/64);have key:=pU hW (dv x k);rw[<-qx]at key;have HU0:Hid (wordOf (ao (lev S k) (dv x k) false) (dv x k/64)=0->lev (ao S x false) (k+1)=ao (lev S (k+1)) (dv x (k+1)) false):=λq=>by show up (lev (ao S x false) k)=_;rw[HLV.out,zf _ _ q];rfl
   have HU1:Hid (¬wordOf (ao (lev S k) (dv x k) false) (dv x k/64)=0->∀i,k+1<=i->lev (ao S x false) i=lev S i):=λq=>A7 (by show up (lev (ao S x false) k)=up (lev S k);rw[HLV.out,yI _ _ q])
   clear HR HB HF fst HLV;have HY:Hid (dv x (k+1)=dv x k/64):=rfl;have hyb:dv x k<=65535:=by have:=AK x k;omega
   generalize wordOf (ao (lev S k) (dv x k) false) (dv x k/64)=W2 at*;generalize wordOf (lev S k) (dv x k/64)=W at*;have HHB:Hid (h k=h k):=rfl;generalize h k=hb at*;generalize dv x k=y at*;have hw1:IntKind.i64.wrap ((y:Int)/64)=(y:Int)/64:=IntWalk.i64_in _ (by omega);have hi0:0<=(y:Int)/64:=by omega
   have hi1:(y:Int)/64<(szs bound k:Nat):=by omega
   have hi2:((y:Int)/64).toNat=y/64:=by omega
   go_wp2
   go_region
   by_cases h0:W2=0
   .have HH0:=Hd (HU0.out h0)
    have hz:((W2:Int) !=0)=false:=by simp[h0]
    clear h0 HU0 HU1;go_wp2
    go_roundw
    case rel=>exact⟨k+1,by omega,by go_num,by rw[HY.out];go_num,HH0.out,HST.out.fr ((Fr.refl NoF _).drew) (λ_ _ q=>q),HBS.out.drew,HFS.out.drew⟩
    case measure=>simp[intOf];omega
   .have HH1:=Hd (HU1.out h0)
    have hz:((W2:Int) !=0)=true:=by simp[h0]
    clear h0 HU0 HU1;go_wp2;go_returns
    exact⟨rfl,⟨HBS.out.drew,hinb,by rw[ab _ _ (by omega)];exact HC.out.1,by rw[upd_same];have:=HCN.out;congr 1;omega,by rw[ab _ _ (by omega)];exact HC.out.2,⟨(HST.out.fr ((Fr.refl NoF _).drew) (λ_ _ q=>q)).congr (λi hi=>by
     unfold i6;by_cases q:i<k+1
     .rw[if_pos q]
     .rw[if_neg q];exact(HH1.out i (by omega)).symm),HD.out⟩,HNB.out⟩,HFS.out.drew⟩
  .obtain rfl:k=L:=by omega
   clear hlt;go_wp2;go_returns;exact⟨rfl,⟨HB.out,hinb,by rw[ab _ _ (by omega)];exact HC.out.1,by rw[upd_same];have:=HCN.out;congr 1;omega,by rw[ab _ _ (by omega)];exact HC.out.2,⟨HR.out.congr (λi hi=>by unfold i6;rw[if_pos hi]),HD.out⟩,HNB.out⟩,HF.out⟩
end
section
variable{w w':World}{b off N bound L:Nat}{c:Nat->Value}{S:Nat->Bool}{v:Value}{h:Nat->Nat}{T:Nat->Nat->Bool}
theorem ni(H:LC w b off N c bound S v h L):Calls prog 96 #[.pointer (some ⟨b,off,none⟩)] w λe w'=>e=.returned (.int .i64 (cntB S bound:Nat))/\w=w':=by
 have q1:=H.cell1;have lb:=H.blk.lt;clear H;go_enter func96,ntmps96;go_wp2;go_returns;exact⟨rfl,rfl⟩
theorem um(H:LC w b off N c bound S v h L)(h0:cntB S bound=0):Calls prog 90 #[.pointer (some ⟨b,off,none⟩)] w λe w'=>e=.returned (.int .i64 (-1))/\w=w':=by
 have q1:=H.cell1;rw[h0]at q1;have lb:=H.blk.lt;clear H h0;go_enter func90,ntmps90;go_wp2;go_returns;exact⟨rfl,rfl⟩
theorem Ct(H:LC w b off N c bound S v h L){x:Nat}(hx:S x=true):aT (lev S L) 0:=by
 refine⟨?_,λy hy=>by omega⟩;have h1:=pV hx L;obtain⟨l,rfl⟩:∃l,L=l+1:=⟨L-1,by have:=H.ls.r.one;omega⟩;have h2:=oO H.ls.dom l _ h1;have h3:=H.ls.r.top;rw[show l+1-1=l from rfl]at h3;have:dv x (l+1)=0:=by omega
 rw[this]at h1;exact h1
theorem uA(hT:dq w)(H:LC w b off N c bound S v h L){x:Nat}(hx:aT S x):Calls prog 90 #[.pointer (some ⟨b,off,none⟩)] w λe w'=>e=.returned (.int .i64 x)/\w=w':=by
 have HTOP:=Hd (Ct H hx.1);have HX:=Hd hx;have q1:=H.cell1;have q2:=H.cell2;have lb:=H.blk.lt;have hL:=H.ls.r.one;have hL4:=H.ls.r.small;have hhi:=H.ls.r.hi;have hcz:¬cntB S bound=0:=λq=>by have:=gJ q x (H.ls.dom x hx.1);rw[hx.1]at this;cases this
 have HR:=Hd H.ls.r;have HDM:=Hd (oO H.ls.dom);have HT:=Hd hT;obtain⟨g,cap,rfl,g1,g2⟩:=H.ls.r.shape;generalize cntB S bound=cn at*;have hcq:((cn:Int)==0)=false:=by simp;omega
 have hlw:IntKind.i64.wrap ((L:Int)-1)=(L:Int)-1:=IntWalk.i64_in _ (by omega);clear H hx hT hcz;go_enter func90,ntmps90;go_wp2
 go_loopw [3,4] (λxv iv wr=>∃k y:Nat,k<=L/\iv=.int .i64 ((k:Int)-1)/\xv=.int .i64 (y:Nat)/\Hid (aT (lev S k) y)/\w=wr) (λ_ iv _=>(intOf iv+1).toNat)
 case atStart=>exact⟨L,0,Nat.le_refl _,rfl,rfl,HTOP.out,rfl⟩
 case round=>
  obtain⟨k,y,hk,rfl,rfl,HY,rfl⟩:=hrel
  cases k with
  |zero=>
   have e:y=x:=HY.out.unique HX.out;subst e;go_wp2;go_returns;exact⟨rfl,rfl⟩
  |succ k=>
   have hys:y<szs bound k:=HDM.out k y HY.out.1;obtain⟨d1,d2⟩:=aT.down HY.out;have HY2:=Hd d2;obtain⟨r0,r1,r2,r3,r6,r4,r5⟩:=HR.out.at (k:=k) (by omega) hys;have HTZ:=Hd (BG HT.out (df (lev S k) y) d1);obtain⟨z1,_,_⟩:=nB d1 (df (lev S k) y);clear d1 d2 HY;generalize Lib.ctz 64 (wordOf (lev S k) y)=z at*;generalize wordOf (lev S k) y=W at*;generalize h k=hb at*;have hkk:((k+1:Nat):Int)-1=(k:Int):=by omega
   rw[hkk];have hwm:IntKind.i64.wrap ((y:Int)*64)=(y:Int)*64:=IntWalk.i64_in _ (by omega);have hwa:IntKind.i64.wrap ((y:Int)*64+(z:Int))=(y:Int)*64+(z:Int):=IntWalk.i64_in _ (by omega)
   go_wp2_with fail
   refine HTZ.out.mono ?_;rintro e w'⟨rfl,rfl⟩;go_wp2
   go_roundw
   case rel=>exact⟨k,y*64+z,by omega,by go_num,by go_num,HY2.out,by first|rfl|trivial⟩
   case measure=>simp[intOf]<;>omega
theorem jP(hT:dq w)(H:LC w b off N c bound S v h L):Calls prog 90 #[.pointer (some ⟨b,off,none⟩)] w λe w'=>w=w'/\((cntB S bound=0/\(∀x,S x=false)/\e=.returned (.int .i64 (-1)))\/∃x,x<bound/\aT S x/\e=.returned (.int .i64 (x:Nat))):=by
 by_cases h0:cntB S bound=0
 .refine(um H h0).mono ?_
  rintro e w'⟨rfl,rfl⟩
  exact⟨rfl,.inl ⟨h0,λx=>by
   by_cases hx:x<bound
   .exact gJ h0 x hx
   .cases e:S x with
    |false=>rfl
    |true=>exact absurd (H.ls.dom x e) hx,rfl⟩⟩
 .obtain⟨x,hx,hl⟩:=qd (nZ h0)
  refine(uA hT H hl).mono ?_;rintro e w'⟨rfl,rfl⟩;exact⟨rfl,.inr ⟨x,hx,hl,rfl⟩⟩
end
end
end Go.Proofs.YtkjhnllcphidpaaGreatDoor
