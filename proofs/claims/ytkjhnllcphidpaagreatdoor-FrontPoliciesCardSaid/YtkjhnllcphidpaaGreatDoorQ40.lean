/- Part 40. -/
import Derived.Test.YtkjhnllcphidpaaGreatDoorQ39
namespace Go.Proofs.YtkjhnllcphidpaaGreatDoor
set_option linter.all false
set_option maxHeartbeats 16000000
set_option maxRecDepth 100000
section
open Go.Maps Go.Proofs.Tryz Go.RowKit
def anC(a:AnF):Nat->Value:=λi=>match i with|0=>.int .i64 (a.e:Nat)|1=>.int .u32 (a.id:Nat)|_=>.int .u64 (a.v:Nat)
theorem vl(c:Nat->Value)(a:AnF){w:World}{g:Nat}(h:Blk w g 3 c):Blk (((w.setCell ⟨g,0,none⟩ (.int .i64 (a.e:Nat))).setCell ⟨g,1,none⟩ (.int .u32 (a.id:Nat))).setCell ⟨g,2,none⟩ (.int .u64 (a.v:Nat))) g 3 (anC a):=
 (((h.set 0 (.int .i64 (a.e:Nat))).set 1 (.int .u32 (a.id:Nat))).set 2 (.int .u64 (a.v:Nat))).congr (λi hi=>by
   match i,hi with
   |0,_|1,_|2,_=>rfl)
def dA(o:OpF)(a:AnF)(pin:Nat->Nat):Nat->Nat:=
 if a.e=0 then(if o.k=0 then upd pin a.id (pin a.id+1)else if o.k=1 then upd pin o.id (pin o.id+1)else if o.k=2 then upd pin o.id (pin o.id-1)else pin)else pin
theorem Cr{k:Int}(h:¬k=0/\¬k=1/\¬k=2):cntM k=none:=by
 unfold cntM;rw[bK _ _ h.2.2,bK _ _ h.2.1,bK _ _ h.1]
def fZ(p:PP)(q:Bool)(M':AM)(m':Nat)(F:Nat->Prop)(w:World)(mb cnt:Nat)(pin':Nat->Nat)(w':World):Prop:=
 ∃F' cnt',aq p q M' m' w' F'/\(∀i,F' i->F i\/w.heap.size<=i)/\cnt'<=cnt+1/\aG w' mb cnt' (aX pin')/\Fr (λj=>F j\/j=mb) w w'
section
variable{p:PP}{q:Bool}{M M':AM}{m m':Nat}{w w0 w1 w2:World}{F:Nat->Prop}{o:OpF}{a:AnF}{b fb i d mb s cnt g:Nat}{ov cv lv:Value}{la:Option Nat}{pin:Nat->Nat}{c:Nat->Value}
theorem Cj(h:Led (aq p q M' m') F w1 w2)(f:Fr NoF w0 w1)(hb:Blk w1 g 3 c)(hg:w0.heap.size<=g)(hF:∀i,F i->i<w0.heap.size)(ht:0<w0.heap.size):
  Led (aq p q M' m') F w0 (((w2.setCell ⟨g,0,none⟩ (.int .i64 (a.e:Nat))).setCell ⟨g,1,none⟩ (.int .u32 (a.id:Nat))).setCell ⟨g,2,none⟩ (.int .u64 (a.v:Nat)))/\Blk (((w2.setCell ⟨g,0,none⟩ (.int .i64 (a.e:Nat))).setCell ⟨g,1,none⟩ (.int .u32 (a.id:Nat))).setCell ⟨g,2,none⟩ (.int .u64 (a.v:Nat))) g 3 (anC a)/\Blk w2 g 3 c:=by
 obtain⟨F',h1,h2,h3⟩:=h;have nF:¬F g:=λk=>by have:=hF g k;omega
 have nF':¬F' g:=λk=>by
  rcases h3 g k with z|z
  .exact nF z
  .have:=hb.lt;omega
 have fs:Fr (λj=>j=g) w2 (((w2.setCell ⟨g,0,none⟩ (.int .i64 (a.e:Nat))).setCell ⟨g,1,none⟩ (.int .u32 (a.id:Nat))).setCell ⟨g,2,none⟩ (.int .u64 (a.v:Nat))):=(((Fr.refl (λj=>j=g) w2).setCell (p:=⟨g,0,none⟩) (.inl rfl) _).setCell (p:=⟨g,1,none⟩) (.inl rfl) _).setCell (p:=⟨g,2,none⟩) (.inl rfl) _;have hb2:=hb.fr h2 nF;refine⟨⟨F',h1.fro fs (λj k e=>nF' (e▸k)) (λe=>by omega),(f.none.trans h2 (λj k=>.inl k)).trans fs (λj k=>.inr (by omega)),λj k=>?_⟩,vl c a hb2,hb2⟩;rcases h3 j k with z|z
 .exact .inl z
 .have:=f.size;exact .inr (by omega)
theorem Dv(h:Led (aq p q M' m') F w1 w2)(f:Fr NoF w0 w1){t:TypeId}:
  Led (aq p q M' m') F w0 (w2.alloc (.cells #[.int .i64 (a.e:Nat),.int .u32 (a.id:Nat),.int .u64 (a.v:Nat)] t))/\Blk (w2.alloc (.cells #[.int .i64 (a.e:Nat),.int .u32 (a.id:Nat),.int .u64 (a.v:Nat)] t)) w2.heap.size 3 (anC a):=by
 obtain⟨F',h1,h2,h3⟩:=h
 refine⟨⟨F',h1.fr0 ((Fr.refl NoF w2).alloc _),(Fr.trans f.none h2 (F:=F) (λj k=>.inl k)).alloc _,λj k=>?_⟩,(jh w2 _ _ _).congr (λi hi=>by
  match i,hi with
  |0,_|1,_|2,_=>rfl)⟩
 rcases h3 j k with z|z
 .exact .inl z
 .have:=f.size;exact .inr (by omega)
def DU(k:Int)(a:AnF)(pin:Nat->Nat)(o:OpF)(b i d mb s cnt:Nat)(ov cv:Value)(cb:Bool):Prop:=
 (cb=false/\dA o a pin=pin)\/(cb=true/\dA o a pin=pin/\¬a.e=0)\/(cb=true/\a.e=0/\∃g,cv=.func (.func g) #[] #[]/\Own g/\∀W,Blk W b 5 (clC i ov d mb b s)->aG W mb cnt (aX pin)->Calls prog g #[.pointer (some ⟨b,0,none⟩),o.val,a.val] W λe w'=>e=.returned (.tuple #[])/\(∃cnt',cnt'<=cnt+1/\aG w' mb cnt' (aX (dA o a pin)))/\Fr (λj=>j=mb) W w')
theorem uB{g:FuncId}(hO:Own g)(hc:dA o {a with e:=1} pin=pin)(HG:a.e=0->∀W,Blk W b 5 (clC i ov d mb b s)->aG W mb cnt (aX pin)->Calls prog g #[.pointer (some ⟨b,0,none⟩),o.val,a.val] W λe w'=>e=.returned (.tuple #[])/\(∃cnt',cnt'<=cnt+1/\aG w' mb cnt' (aX (dA o a pin)))/\Fr (λj=>j=mb) W w'):
  DU o.k a pin o b i d mb s cnt ov (.func (.func g) #[] #[]) true:=by
 by_cases hz:a.e=0
 .exact .inr (.inr ⟨rfl,hz,g,rfl,hO,HG hz⟩)
 .exact .inr (.inl ⟨rfl,by unfold dA;rw[if_neg hz],hz⟩)
theorem Am:Own 155:=bG func155 (by kernel_rfl) rfl
theorem rP:Own 156:=bG func156 (by kernel_rfl) rfl
theorem oK:Own 157:=bG func157 (by kernel_rfl) rfl
theorem CP(ho:o.ok)(hcn:cnt<100000)(hpn:∀x,pin x<100000)(ne:¬b=mb)(hl:jS o pin=false)(ha:a.id<4294967296):DU o.k a pin o b i d mb s cnt ov ((cntM o.k).getD .nilFunc) (cntM o.k).isSome:=by
 obtain⟨k,pg,v⟩:=o;by_cases k0:k=0
 .subst k0
  refine uB Am (by simp[dA]) λhz W h1 h2=>?_
  rw[show dA ⟨0,pg,v⟩ a pin=upd pin a.id (pin a.id+1)from by unfold dA;rw[if_pos hz];rfl];exact th ha hcn (hpn _) h1 h2 ne
 by_cases k1:k=1
 .subst k1
  refine uB rP (by simp[dA]) λhz W h1 h2=>?_
  rw[show dA ⟨1,pg,v⟩ a pin=upd pin pg (pin pg+1)from by unfold dA;rw[if_pos hz];rfl];exact mW ho hcn (hpn _) h1 h2 ne
 by_cases k2:k=2
 .subst k2
  refine uB oK (by simp[dA]) λhz W h1 h2=>?_
  rw[show dA ⟨2,pg,v⟩ a pin=upd pin pg (pin pg-1)from by unfold dA;rw[if_pos hz];rfl];exact lK ho hcn (hpn _) (by have z:=hl;simp[jS]at z;show 1<=pin pg;omega) h1 h2 ne
 .rw[show cntM k=none from Cr ⟨k0,k1,k2⟩]
  exact .inl ⟨rfl,by unfold dA;simp[k0,k1,k2]⟩
theorem xk(h:aq p q M m w F)(ho:o.ok)(hc:Blk w b 5 (clC i ov d mb b s))(hf:Blk w fb 4 (frC p.ptr cv la lv))(hp:aG w mb cnt (aX pin))(hcn:cnt<100000)(hpn:∀x,pin x<100000)(ne:¬b=mb)(nb:¬F b)(nm:¬F mb)(nf:¬F fb)(ht:0<w.heap.size)(tm:¬0=mb)(hl:jS o pin=false)(ha:a.id<4294967296)
  (HC:∀W,Fr NoF w W->Calls prog 12 #[p.ptr,o.val] W λe w'=>e=.returned a.val/\Led (aq p q M' m') F W w'):
  Calls prog 149 #[.pointer (some ⟨b,0,none⟩),.pointer (some ⟨fb,0,none⟩),o.val] w λe w'=>e=.returned a.val/\fZ p q M' m' F w mb cnt (dA o a pin) w':=by
 have HK:=Hd (CP (i:=i) (d:=d) (s:=s) (ov:=ov) ho hcn hpn ne hl ha);obtain⟨k,pg,v⟩:=o;simp only at HK;obtain⟨cw,hcw⟩:∃x,x=(cntM k).getD .nilFunc:=⟨_,rfl⟩;obtain⟨cb,hcb⟩:∃x,x=(cntM k).isSome:=⟨_,rfl⟩;rw[<-hcw,<-hcb]at HK;have HCV:=Hd (And.intro hcw.symm hcb.symm);clear hcw hcb;have f0:Fr NoF w ((w.alloc (.cells #[.int .i64 k,.int .u32 (pg:Nat),.int .u64 (v:Nat)] 50)).alloc (.cells #[.int .i64 0,.int .u32 0,.int .u64 0] 47)):=((Fr.refl NoF w).alloc _).alloc _;have b0:=((jh w (.int .i64 k) (.int .u32 (pg:Nat)) (.int .u64 (v:Nat)) (t:=50)).alloc (.cells #[.int .i64 0,.int .u32 0,.int .u64 0] 47));have b1:=(jh (w.alloc (.cells #[.int .i64 k,.int .u32 (pg:Nat),.int .u64 (v:Nat)] 50)) (.int .i64 0) (.int .u32 0) (.int .u64 0) (t:=47));rw[World.size_alloc]at b1;have hLK:=jO ho (hc.fr f0 id) (hp.fr f0 id);rw[hl]at hLK;have HLK:=Hd hLK;have HO:=Hd ho;have HCC:=Hd hc;have HF:=Hd hf;have HP:=Hd hp;have B0:=Hd b0;have B1:=Hd b1;have F0:=Hd f0;have HX:=Hd HC;have HLT:=Hd h.lt;have HPN:=Hd hpn;have lmw:=hp.lt;have lbw:=hc.lt;clear h b0 b1 hc hf hp hl ho hLK f0 HC hpn;unfold OpF.val;go_enter func149,ntmps149
 go_wp2_with fail
 refine HLK.out.mono ?_;clear HLK;rintro e w1⟨rfl,f1⟩;have hs1:w.heap.size+1+1<=w1.heap.size:=by have q:=f1.size;simp only[World.size_alloc]at q;exact q
 have B0:=Hd (B0.out.fr f1 id);have B1:=Hd (B1.out.fr f1 id);have F1:=Hd (F0.out.trans f1 (λ_ q=>q.elim));clear f1 F0
 have KS:Hid (∀W,Fr F w1 W->W.cell? ⟨fb,0,none⟩=some p.ptr/\W.cell? ⟨w.heap.size,0,none⟩=some (.int .i64 k)/\W.cell? ⟨w.heap.size,1,none⟩=some (.int .u32 (pg:Nat))/\W.cell? ⟨w.heap.size,2,none⟩=some (.int .u64 (v:Nat))):=Hd λW f=>by
  have hb0:=B0.out.fr f (λk=>by have:=HLT.out _ k;omega);have hff:=(HF.out.fr F1.out id).fr f nf;exact⟨hff.cell (i:=0) (by omega),hb0.cell (i:=0) (by omega),hb0.cell (i:=1) (by omega),hb0.cell (i:=2) (by omega)⟩
 have lf:=(HF.out.fr F1.out id).lt;have l0:=B0.out.lt
 go_upto_region 5 with fail
 obtain⟨wz,hwz⟩:∃x,x=w1:=⟨_,rfl⟩;subst hwz;have HCW:Hid (∀W,Fr NoF wz W->Calls prog 12 #[p.ptr,.agg #[.int .i64 k,.int .u32 (pg:Nat),.int .u64 (v:Nat)]] W λe w'=>e=.returned a.val/\Led (aq p q M' m') F W w'):=Hd λW f=>HX.out W (F1.out.trans f (λ_ q=>q.elim))
 have LK:Hid (∀W w2,Fr NoF wz W->Led (aq p q M' m') F W w2->(λw'=>w'.cell? ⟨fb,0,none⟩=some p.ptr/\w'.cell? ⟨w.heap.size,0,none⟩=some (.int .i64 k)/\w'.cell? ⟨w.heap.size,1,none⟩=some (.int .u32 (pg:Nat))/\w'.cell? ⟨w.heap.size,2,none⟩=some (.int .u64 (v:Nat))) w2):=Hd λW w2 f ⟨F',_,g,_⟩=>KS.out w2 (f.none.trans g (λi k=>.inl k))
 refine fC (λw'=>w'.cell? ⟨fb,0,none⟩=some p.ptr/\w'.cell? ⟨w.heap.size,0,none⟩=some (.int .i64 k)/\w'.cell? ⟨w.heap.size,1,none⟩=some (.int .u32 (pg:Nat))/\w'.cell? ⟨w.heap.size,2,none⟩=some (.int .u64 (v:Nat))) 7 (by kernel_rfl) rfl rfl (by kernel_rfl) ?_;simp only[List.take_succ_cons,List.take_zero];have hS:(λw'=>w'.cell? ⟨fb,0,none⟩=some p.ptr/\w'.cell? ⟨w.heap.size,0,none⟩=some (.int .i64 k)/\w'.cell? ⟨w.heap.size,1,none⟩=some (.int .u32 (pg:Nat))/\w'.cell? ⟨w.heap.size,2,none⟩=some (.int .u64 (v:Nat))) wz.drew:=KS.out _ ((Fr.refl F _).drew);refine wpAnyH_take (i:=0) (v:=?_) rfl (by decide+kernel) (by decide+kernel) (by decide+kernel) (λ_ _ _ h=>h) (Or.inl ⟨by rfl,?_⟩) hS ?_
 rotate_left
 .intro wS hSw;(try dsimp only at hSw);go_simp
  try with_reducible rfl
 try simp only[Act.put,List.setIfInBounds_toArray,List.set_cons_zero,List.set_cons_succ]
 refine wpAnyH_take (i:=1) (v:=?_) rfl (by decide+kernel) (by decide+kernel) (by decide+kernel) (λ_ _ _ h=>h) (Or.inl ⟨by rfl,?_⟩) hS ?_
 rotate_left
 .intro wS hSw;(try dsimp only at hSw);go_simp
  try with_reducible rfl
 try simp only[Act.put,List.setIfInBounds_toArray,List.set_cons_zero,List.set_cons_succ]
 refine wpAnyH_take (i:=2) (v:=?_) rfl (by decide+kernel) (by decide+kernel) (by decide+kernel) (λ_ _ _ h=>h) (Or.inl ⟨by rfl,?_⟩) hS ?_
 rotate_left
 .intro wS hSw;(try dsimp only at hSw);go_simp
  try with_reducible rfl
 try simp only[Act.put,List.setIfInBounds_toArray,List.set_cons_zero,List.set_cons_succ]
 refine wpAnyH_take (i:=3) (v:=?_) rfl (by decide+kernel) (by decide+kernel) (by decide+kernel) (λ_ _ _ h=>h) (Or.inl ⟨by rfl,?_⟩) hS ?_
 rotate_left
 .intro wS hSw;(try dsimp only at hSw);go_simp
  try with_reducible rfl
 try simp only[Act.put,List.setIfInBounds_toArray,List.set_cons_zero,List.set_cons_succ]
 refine wpAnyH_take (i:=4) (v:=?_) rfl (by decide+kernel) (by decide+kernel) (by decide+kernel) (λ_ _ _ h=>h) (Or.inl ⟨by rfl,?_⟩) hS ?_
 rotate_left
 .intro wS hSw;(try dsimp only at hSw);go_simp
  try with_reducible rfl
 try simp only[Act.put,List.setIfInBounds_toArray,List.set_cons_zero,List.set_cons_succ]
 clear hS;refine wpAnyH_ready (rs:=[5,6]) (by kernel_rfl) (by simp) ?_;refine AllReadyH.cons rfl (λK hK=>?_) (AllReadyH.cons rfl (λK hK=>?_) AllReadyH.nil)
 focus
  go_simp;go_at_call 12;(with_reducible refine(HCW.out _ (by repeat(first|exact Fr.refl NoF _|apply Fr.drew|apply Fr.drewN|apply Fr.alloc))).mono ?_);rintro e w2⟨rfl,hl2⟩;have HLD:=Hd hl2;have KC:Hid (∀W,Fr NoF w2 W->(λw'=>w'.cell? ⟨fb,0,none⟩=some p.ptr/\w'.cell? ⟨w.heap.size,0,none⟩=some (.int .i64 k)/\w'.cell? ⟨w.heap.size,1,none⟩=some (.int .u32 (pg:Nat))/\w'.cell? ⟨w.heap.size,2,none⟩=some (.int .u64 (v:Nat))) W):=Hd (λW f=>by obtain⟨F',_,g,_⟩:=hl2;exact KS.out W (Fr.trans (Fr.trans (F:=F) (by repeat(first|exact Fr.refl F _|apply Fr.drew|apply Fr.drewN|apply Fr.alloc)) g (λi k=>.inl k)) f (λi k=>k.elim)));unfold AnF.val;clear hl2;go_wp2_with fail
  refine hK.out _ _ (by first|(refine KC.out _ ?_;(repeat(first|exact Fr.refl NoF _|apply Fr.drew|apply Fr.drewN|apply Fr.alloc));done)|(refine KS.out _ ?_;(repeat(first|exact Fr.refl F _|apply Fr.drew|apply Fr.drewN|apply Fr.alloc));done)) (λhS=>?_);clear hK K
  try simp only[Act.put,List.setIfInBounds_toArray,List.set_cons_zero,List.set_cons_succ]
  refine wpAnyH_ready (rs:=[6]) (by kernel_rfl) (by simp) ?_;refine AllReadyH.cons rfl (λK hK=>?_) AllReadyH.nil
  go_simp
  refine hK.out _ _ (by first|(refine KC.out _ ?_;(repeat(first|exact Fr.refl NoF _|apply Fr.drew|apply Fr.drewN|apply Fr.alloc));done)|(refine KS.out _ ?_;(repeat(first|exact Fr.refl F _|apply Fr.drew|apply Fr.drewN|apply Fr.alloc));done)) (λhS=>?_);clear hK K
  try simp only[Act.put,List.setIfInBounds_toArray,List.set_cons_zero,List.set_cons_succ]
  refine wpAnyH_done (by kernel_rfl) ?_ _
  show wpList _ _ _ _ _ _
  have hN:=Dv (a:=a) (w0:=wz) (t:=47) HLD.out (Fr.drew (Fr.refl NoF wz));have HL3:=Hd hN.1;have HB3:=Hd hN.2;have lg:wz.heap.size<=w2.heap.size:=by obtain⟨F',_,g,_⟩:=HLD.out;exact g.size
  clear hN HLD KC hS
  go_upto_region 6 with fail
  generalize(w2.alloc (.cells #[.int .i64 (a.e:Nat),.int .u32 (a.id:Nat),.int .u64 (a.v:Nat)] 47))=w3 at*;generalize w2.heap.size=g at*
 rotate_left
 focus
  go_simp
  refine hK.out _ _ (by first|(refine KC.out _ ?_;(repeat(first|exact Fr.refl NoF _|apply Fr.drew|apply Fr.drewN|apply Fr.alloc));done)|(refine KS.out _ ?_;(repeat(first|exact Fr.refl F _|apply Fr.drew|apply Fr.drewN|apply Fr.alloc));done)) (λhS=>?_);clear hK K
  try simp only[Act.put,List.setIfInBounds_toArray,List.set_cons_zero,List.set_cons_succ]
  refine wpAnyH_ready (rs:=[5]) (by kernel_rfl) (by simp) ?_;refine AllReadyH.cons rfl (λK hK=>?_) AllReadyH.nil
  go_simp;go_at_call 12;(with_reducible refine(HCW.out _ (by repeat(first|exact Fr.refl NoF _|apply Fr.drew|apply Fr.drewN|apply Fr.alloc))).mono ?_);rintro e w2⟨rfl,hl2⟩;have HLD:=Hd hl2;have KC:Hid (∀W,Fr NoF w2 W->(λw'=>w'.cell? ⟨fb,0,none⟩=some p.ptr/\w'.cell? ⟨w.heap.size,0,none⟩=some (.int .i64 k)/\w'.cell? ⟨w.heap.size,1,none⟩=some (.int .u32 (pg:Nat))/\w'.cell? ⟨w.heap.size,2,none⟩=some (.int .u64 (v:Nat))) W):=Hd (λW f=>by obtain⟨F',_,g,_⟩:=hl2;exact KS.out W (Fr.trans (Fr.trans (F:=F) (by repeat(first|exact Fr.refl F _|apply Fr.drew|apply Fr.drewN|apply Fr.alloc)) g (λi k=>.inl k)) f (λi k=>k.elim)));unfold AnF.val;clear hl2;go_wp2_with fail
  refine hK.out _ _ (by first|(refine KC.out _ ?_;(repeat(first|exact Fr.refl NoF _|apply Fr.drew|apply Fr.drewN|apply Fr.alloc));done)|(refine KS.out _ ?_;(repeat(first|exact Fr.refl F _|apply Fr.drew|apply Fr.drewN|apply Fr.alloc));done)) (λhS=>?_);clear hK K
  try simp only[Act.put,List.setIfInBounds_toArray,List.set_cons_zero,List.set_cons_succ]
  refine wpAnyH_done (by kernel_rfl) ?_ _
  show wpList _ _ _ _ _ _
  have ht1:0<wz.heap.size:=by omega
  have hN:=Cj (a:=a) (w0:=wz) (g:=wz.heap.size) HLD.out ((Fr.drew (Fr.refl NoF wz)).alloc _) (jh wz.drew (.int .i64 0) (.int .u32 0) (.int .u64 0) (t:=47)) (Nat.le_refl _) (λi k=>by have:=HLT.out i k;omega) ht1;have hbn:=hN.2.2;have x0:=hbn.cell (i:=0) (by omega);have x1:=hbn.cell (i:=1) (by omega);have x2:=hbn.cell (i:=2) (by omega);have y0:=hbn.frozen 0;have y1:=hbn.frozen 1;have y2:=hbn.frozen 2;have ly:=hbn.lt
  (try simp only[zAn]at x0 x1 x2)
  (try simp only at x0 x1 x2)
  have HL3:=Hd hN.1;have HB3:=Hd hN.2.1;clear hN hbn HLD KC hS
  go_upto_region 6 with fail
  clear x0 x1 x2 y0 y1 y2 ly;generalize(((w2.setCell ⟨wz.heap.size,0,none⟩ (.int .i64 (a.e:Nat))).setCell ⟨wz.heap.size,1,none⟩ (.int .u32 (a.id:Nat))).setCell ⟨wz.heap.size,2,none⟩ (.int .u64 (a.v:Nat)))=w3 at*;obtain⟨g,hgz⟩:∃g,g=wz.heap.size:=⟨_,rfl⟩;rw[<-hgz];rw[<-hgz]at HB3;have lg:wz.heap.size<=g:=Nat.le_of_eq hgz.symm;clear hgz
 all_goals
  obtain⟨F',h3,fr3,hF3⟩:=HL3.out;have HC3:=Hd ((HCC.out.fr F1.out id).fr fr3 nb);have HP3:=Hd ((HP.out.fr F1.out id).fr fr3 nm);have B0:=Hd (B0.out.fr fr3 (λk=>by have:=HLT.out _ k;omega));have B1:=Hd (B1.out.fr fr3 (λk=>by have:=HLT.out _ k;omega));have H3:=Hd h3;have FR3:=Hd fr3;have HF3:=Hd hF3;clear h3 fr3 hF3 HL3 KS LK HCC HP HX HCW HF;have KO:Hid (∀W,Fr NoF w3 W->W.cell? ⟨w.heap.size,0,none⟩=some (.int .i64 k)):=Hd λW f=>(B0.out.fr f id).cell (i:=0) (by omega)
  go_region_held3(λw'=>w'.cell? ⟨w.heap.size,0,none⟩=some (.int .i64 k))
   (first|(refine KO.out _ ?_;(repeat(first|exact Fr.refl NoF _|exact HW4.out|apply Fr.drew|apply Fr.drewN|apply Fr.alloc));done))
   (first|(go_at_call 154;(with_reducible refine(lW _).mono ?_);rintro e w4⟨rfl,⟨cc,hcm⟩,f4⟩;have HW4:Hid (Fr NoF w3 w4):=Hd (Fr.trans (F:=NoF) (by repeat(first|exact Fr.refl NoF _|apply Fr.drew|apply Fr.drewN)) f4 (λi k=>k.elim));have hlk:=hcm.look_ok_run MVc (x:=k) (Gr HO.out.2.2);rw[HCV.out.1,HCV.out.2]at hlk;(try rw[show w3.drew.heap.size=w3.heap.size from rfl]at hlk);clear hcm f4))
  have HB4:=HB3.out.fr HW4.out id;have B04:=B0.out.fr HW4.out id;have B14:=Hd (B1.out.fr HW4.out id);have HC4:=Hd (HC3.out.fr HW4.out id);have HP4:=Hd (HP3.out.fr HW4.out id);have H4:=Hd (H3.out.fr0 HW4.out);have lw3:=(FR3.out.trans HW4.out (λ_ k=>k.elim)).size;have s0:=HB4.cell (i:=0) (by omega);have s1:=HB4.cell (i:=1) (by omega);have s2:=HB4.cell (i:=2) (by omega);have sl:=HB4.lt;have o0:=B04.cell (i:=0) (by omega);have o1:=B04.cell (i:=1) (by omega);have o2:=B04.cell (i:=2) (by omega);have ol:=B04.lt;simp only[anC]at s0 s1 s2;simp only at o0 o1 o2;have HB4:=Hd HB4;have B04:=Hd B04;have FW4:Hid (Fr (λj=>F j\/j=mb) w w4):=Hd (((F1.out.none.trans FR3.out (λj k=>.inl k)).trans HW4.out (λ_ k=>k.elim)).mono (λj k=>.inl k));rcases HK.out with⟨hcb,hpx⟩|⟨hcb,hpx,hz⟩|⟨hcb,hz,g',hcg,hO,HG⟩
  rotate_right
  focus
   subst hcb hcg;have hzB:(((a.e:Nat):Int)==0)=true:=by rw[hz];rfl
   have HG:=Hd (HG _ HC4.out HP4.out);have HO':=Hd hO;clear hz hO
   go_wp2_with fail
   rw[HO'.out,Oper.upon_enter]
   (try simp only[OpF.val,AnF.val]at HG)
   refine HG.out.mono ?_;clear HG HO';rintro e w5⟨rfl,⟨cnt5,hc5,hp5⟩,f5⟩;have HP5:=Hd hp5;have B15:=Hd (B14.out.fr f5 (λk=>by omega));have HB5:=HB4.out.fr f5 (λk=>by omega);have s0:=HB5.cell (i:=0) (by omega);have s1:=HB5.cell (i:=1) (by omega);have s2:=HB5.cell (i:=2) (by omega);have sl:=HB5.lt;simp only[anC]at s0 s1 s2;have H5:=Hd (H4.out.fro f5 (λi k e=>by rcases HF3.out i k with z|z;(exact nm (e▸z));(omega)) tm);have FW:Hid (Fr (λj=>F j\/j=mb) w w5):=Hd (FW4.out.trans f5 (λj k=>.inl (.inr k)));clear hp5 f5 HB5
  rotate_right
  focus
   have hzB:(((a.e:Nat):Int)==0)=false:=by simpa using hz
   clear hz
  focus
   have HP5:Hid (aG w4 mb cnt (aX (dA ⟨k,pg,v⟩ a pin))):=Hd (by rw[hpx];exact HP4.out);subst hcb;clear hpx;have hc5:=Nat.le_succ cnt;have B15:=B14;have H5:=H4;have FW:=FW4;obtain⟨w5,rfl⟩:∃x,x=w4:=⟨_,rfl⟩
  rotate_right
  focus
   have HP5:Hid (aG w4 mb cnt (aX (dA ⟨k,pg,v⟩ a pin))):=Hd (by rw[hpx];exact HP4.out);subst hcb;clear hpx;have hc5:=Nat.le_succ cnt;have B15:=B14;have H5:=H4;have FW:=FW4;obtain⟨w5,rfl⟩:∃x,x=w4:=⟨_,rfl⟩
  all_goals
   have t0:=B15.out.cell (i:=0) (by omega);have t1:=B15.out.cell (i:=1) (by omega);have t2:=B15.out.cell (i:=2) (by omega);have u0:=B15.out.frozen 0;have u1:=B15.out.frozen 1;have u2:=B15.out.frozen 2;have ul:=B15.out.lt;simp only at t0 t1 t2;have HR:=Hd (vl _ a B15.out);have fs:Fr (λj=>j=w.heap.size+1) w5 (((w5.setCell ⟨w.heap.size+1,0,none⟩ (.int .i64 (a.e:Nat))).setCell ⟨w.heap.size+1,1,none⟩ (.int .u32 (a.id:Nat))).setCell ⟨w.heap.size+1,2,none⟩ (.int .u64 (a.v:Nat))):=(((Fr.refl (λj=>j=w.heap.size+1) _).setCell (p:=⟨w.heap.size+1,0,none⟩) (.inl rfl) _).setCell (p:=⟨w.heap.size+1,1,none⟩) (.inl rfl) _).setCell (p:=⟨w.heap.size+1,2,none⟩) (.inl rfl) _
   have HL:Hid (fZ p q M' m' F w mb cnt (dA ⟨k,pg,v⟩ a pin) (((w5.setCell ⟨w.heap.size+1,0,none⟩ (.int .i64 (a.e:Nat))).setCell ⟨w.heap.size+1,1,none⟩ (.int .u32 (a.id:Nat))).setCell ⟨w.heap.size+1,2,none⟩ (.int .u64 (a.v:Nat)))):=Hd (by
    refine⟨F',_,H5.out.fro fs (λj k (e:j=w.heap.size+1)=>?_) (λ(e:_=w.heap.size+1)=>by omega),λj k=>?_,hc5,(HP5.out.fr fs (λ(e:mb=w.heap.size+1)=>by omega)),(FW.out).trans fs (λj (e:j=w.heap.size+1)=>.inr (by omega))⟩
    .subst e;rcases HF3.out _ k with z|z
     .have:=HLT.out _ z;omega
     .omega
    .rcases HF3.out j k with z|z
     .exact .inl z
     .exact .inr (by omega))
   clear fs
   go_wp2_with fail
   (try simp only[Exit.inBlock,Exit.then])
   refine bodyPost_ret (au Tryz.results149 _ _ HR.out rfl underlying47 rfl (by kernel_rfl)) rfl ?_;exact⟨rfl,HL.out⟩
end
end
end Go.Proofs.YtkjhnllcphidpaaGreatDoor
