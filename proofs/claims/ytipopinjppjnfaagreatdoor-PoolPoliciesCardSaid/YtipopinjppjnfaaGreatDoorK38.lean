/- Part 38. -/
import Derived.Test.YtipopinjppjnfaaGreatDoorK37
import Derived.StillTailTactics
namespace Go.Proofs.YtipopinjppjnfaaGreatDoor
set_option linter.all false
set_option maxHeartbeats 16000000
set_option maxRecDepth 100000
section
open Go.Maps Go.Proofs.Tryz Go.RowKit
def farK(R:Nat->Option (Int×Int))(Fa:Nat->Bool):Nat->Option (Int×Int):=fun x=>if Fa x then R x else none
def freshK(R:Nat->Option (Int×Int))(Fa:Nat->Bool):Nat->Option (Int×Int):=fun x=>if Fa x then none else R x
def turnK(R:Nat->Option (Int×Int))(Fa:Nat->Bool):Nat->Option (Int×Int):=fun x=>(freshK R Fa x).map fun p=>(p.2,0)
def updB1(Fa:Nat->Bool)(x:Nat)(y:Bool):Nat->Bool:=fun z=>if z=x then y else Fa z
structure CAt(w:World)(lb:Nat)(R:Nat->Option (Int×Int))(Fa:Nat->Bool)(q1 q2 q3 nf nr:Nat)(F1 F2 F3:Nat->Prop):Prop where
 p6:w.cell? ⟨lb,6,none⟩=some (.pointer (some ⟨q1,0,none⟩))
 p7:w.cell? ⟨lb,7,none⟩=some (.pointer (some ⟨q2,0,none⟩))
 p8:w.cell? ⟨lb,8,none⟩=some (.pointer (some ⟨q3,0,none⟩))
 lt:lb<w.heap.size
 h1:QK w q1 (farK R Fa) nf F1
 h2:QK w q2 (freshK R Fa) nr F2
 h3:QK w q3 (turnK R Fa) nr F3
 d12:∀i,F1 i->¬F2 i
 d13:∀i,F1 i->¬F3 i
 d23:∀i,F2 i->¬F3 i
 n1:¬F1 lb
 n2:¬F2 lb
 n3:¬F3 lb
 ok:∀x a b,R x=some (a,b)->i64 a∧i64 b∧okN x
def CC(w:World)(lb:Nat)(R:Nat->Option (Int×Int))(Fa:Nat->Bool)(t:Nat)(F:Nat->Prop):Prop:=
 ∃q1 q2 q3 nf nr F1 F2 F3,CAt w lb R Fa q1 q2 q3 nf nr F1 F2 F3∧nf+nr=t∧∀i,F i↔F1 i∨F2 i∨F3 i
section
variable{w w':World}{lb t:Nat}{R:Nat->Option (Int×Int)}{Fa:Nat->Bool}{q1 q2 q3 nf nr:Nat}{F F1 F2 F3:Nat->Prop}
theorem CAt.fr(h:CAt w lb R Fa q1 q2 q3 nf nr F1 F2 F3){G:Nat->Prop}(f:Fr G w w')(g1:∀i,F1 i->¬G i)(g2:∀i,F2 i->¬G i)(g3:∀i,F3 i->¬G i)(gl:¬G lb):CAt w' lb R Fa q1 q2 q3 nf nr F1 F2 F3:=
 ⟨by rw[f.cell (p:=⟨lb,6,none⟩) h.lt gl];exact h.p6,by rw[f.cell (p:=⟨lb,7,none⟩) h.lt gl];exact h.p7,by rw[f.cell (p:=⟨lb,8,none⟩) h.lt gl];exact h.p8,Nat.lt_of_lt_of_le h.lt f.size,h.h1.fr f g1,h.h2.fr f g2,h.h3.fr f g3,h.d12,h.d13,h.d23,h.n1,h.n2,h.n3,h.ok⟩
theorem CAt.fr0(h:CAt w lb R Fa q1 q2 q3 nf nr F1 F2 F3)(f:Fr NoF w w'):CAt w' lb R Fa q1 q2 q3 nf nr F1 F2 F3:=h.fr f (fun _ _ q=>q) (fun _ _ q=>q) (fun _ _ q=>q) (fun q=>q)
theorem CC.fr(h:CC w lb R Fa t F){G:Nat->Prop}(f:Fr G w w')(g:∀i,F i->¬G i)(gl:¬G lb):CC w' lb R Fa t F:=by
 obtain⟨q1,q2,q3,nf,nr,F1,F2,F3,h,ht,hF⟩:=h;exact⟨q1,q2,q3,nf,nr,F1,F2,F3,h.fr f (fun i q=>g i ((hF i).2 (.inl q))) (fun i q=>g i ((hF i).2 (.inr (.inl q)))) (fun i q=>g i ((hF i).2 (.inr (.inr q)))) gl,ht,hF⟩
theorem CC.fr0(h:CC w lb R Fa t F)(f:Fr NoF w w'):CC w' lb R Fa t F:=h.fr f (fun _ _ q=>q) (fun q=>q)
theorem CC.lt(h:CC w lb R Fa t F):∀i,F i->i<w.heap.size:=by
 obtain⟨q1,q2,q3,nf,nr,F1,F2,F3,h,ht,hF⟩:=h;intro i q;rcases(hF i).1 q with q|q|q
 .exact h.h1.lt i q
 .exact h.h2.lt i q
 .exact h.h3.lt i q
theorem CC.notl(h:CC w lb R Fa t F):¬F lb:=by
 obtain⟨q1,q2,q3,nf,nr,F1,F2,F3,h,ht,hF⟩:=h;intro q;rcases(hF lb).1 q with q|q|q
 .exact h.n1 q
 .exact h.n2 q
 .exact h.n3 q
theorem parts_has(R:Nat->Option (Int×Int))(Fa:Nat->Bool)(x:Nat):((farK R Fa x).isSome||(freshK R Fa x).isSome)=(R x).isSome:=by
 unfold farK freshK
 cases Fa x<;>simp
theorem cc_has(h:CC w lb R Fa t F){x:Nat}(hx:okN x):Calls prog 154 #[.pointer (some ⟨lb,6,none⟩),.int .i64 x] w fun e w'=>e=.returned (.bool (R x).isSome)∧Fr NoF w w':=by
 obtain⟨q1,q2,q3,nf,nr,F1,F2,F3,h,ht,hF⟩:=h;have HP:=Hd (parts_has R Fa x);have HC:=Hd h;have H1:Hid (Calls prog 165 #[.pointer (some ⟨q1,0,none⟩),.int .i64 x] w fun e w'=>e=.returned (.tuple #[.agg #[.int .i64 ((farK R Fa x).getD (0,0)).1,.int .i64 ((farK R Fa x).getD (0,0)).2],.bool (farK R Fa x).isSome])∧Fr NoF w w'):=qk_of h.h1 hx;have H2:Hid (∀W,Fr NoF w W->Calls prog 165 #[.pointer (some ⟨q2,0,none⟩),.int .i64 x] W fun e w'=>e=.returned (.tuple #[.agg #[.int .i64 ((freshK R Fa x).getD (0,0)).1,.int .i64 ((freshK R Fa x).getD (0,0)).2],.bool (freshK R Fa x).isSome])∧Fr NoF W w'):=fun W f=>qk_of (h.h2.fr0 f) hx
 have p6:=h.p6;have lt:=h.lt;clear h hF ht;rw[<-HP.out];clear HP;generalize((farK R Fa x).getD (0,0)).1=a1 at*;generalize((farK R Fa x).getD (0,0)).2=a2 at*;generalize((freshK R Fa x).getD (0,0)).1=b1 at*;generalize((freshK R Fa x).getD (0,0)).2=b2 at*;generalize(farK R Fa x).isSome=o1 at*;generalize(freshK R Fa x).isSome=o2 at*;go_enter func154,ntmps154
 go_wp2_with fail
 refine H1.out.mono ?_;rintro e w1⟨rfl,f1⟩;have p7:=(HC.out.fr f1 (fun _ _ q=>q) (fun _ _ q=>q) (fun _ _ q=>q) (fun q=>q)).p7;have lt1:=(HC.out.fr f1 (fun _ _ q=>q) (fun _ _ q=>q) (fun _ _ q=>q) (fun q=>q)).lt;have HF1:=Hd f1;clear p6 lt f1
 cases o1<;>
 (go_wp2_with fail
  refine(H2.out _ (by first|exact HF1.out.alloc _|exact(HF1.out.alloc _).setCell (.inr HF1.out.size) _)).mono ?_;rintro e w2⟨rfl,f2⟩;have HF2:=Hd f2;clear f2;go_wp2;go_returns;exact⟨rfl,by first|exact((HF1.out.alloc _).trans HF2.out (fun _ q=>q.elim)).alloc _|exact(((HF1.out.alloc _).setCell (.inr HF1.out.size) _).trans HF2.out (fun _ q=>q.elim)).alloc _⟩)
theorem cc_len(h:CC w lb R Fa t F)(ht:t<900000):Calls prog 162 #[.pointer (some ⟨lb,6,none⟩)] w fun e w'=>e=.returned (.int .i64 (t:Nat))∧Fr NoF w w':=by
 obtain⟨q1,q2,q3,nf,nr,F1,F2,F3,h,rfl,hF⟩:=h;have H1:Hid (∀W,Fr NoF w W->Calls prog 169 #[.pointer (some ⟨q1,0,none⟩)] W fun e w'=>e=.returned (.int .i64 (nf:Nat))∧W=w'):=fun W f=>qk_len (h.h1.fr0 f)
 have H2:Hid (∀W,Fr NoF w W->Calls prog 169 #[.pointer (some ⟨q2,0,none⟩)] W fun e w'=>e=.returned (.int .i64 (nr:Nat))∧W=w'):=fun W f=>qk_len (h.h2.fr0 f)
 have p6:=h.p6;have p7:=h.p7;have lt:=h.lt;have hw:IntKind.i64.wrap ((nf:Int)+nr)=((nf+nr:Nat):Int):=by rw[show((nf:Int)+nr)=((nf+nr:Nat):Int)from by omega];exact IntWalk.i64_in _ (by omega)
 clear h hF ht;go_enter func162,ntmps162
 go_wp2_with fail
 go_quiet ((go_at_call 169;first|(with_reducible exact qs (H1.out _ (by first|exact Fr.refl _ _|exact(Fr.refl NoF w).drew|exact(Fr.refl NoF w).drewN _)))|(with_reducible exact qs (H2.out _ (by first|exact Fr.refl _ _|exact(Fr.refl NoF w).drew|exact(Fr.refl NoF w).drewN _)))))
 go_wp2;go_returns;exact⟨rfl,by first|exact Fr.refl _ _|exact(Fr.refl NoF w).drewN _⟩
theorem updB1_same(Fa:Nat->Bool)(x:Nat)(y:Bool):updB1 Fa x y x=y:=if_pos rfl
theorem updB1_other(Fa:Nat->Bool){x z:Nat}(y:Bool)(h:¬z=x):updB1 Fa x y z=Fa z:=if_neg h
theorem farK_drop(R:Nat->Option (Int×Int))(Fa:Nat->Bool)(x:Nat):updKK (farK R Fa) x none=farK (updKK R x none) Fa:=by
 funext z;unfold updKK farK
 by_cases e:z=x
 .simp[e]
 .simp[e]
theorem freshK_drop(R:Nat->Option (Int×Int))(Fa:Nat->Bool)(x:Nat):updKK (freshK R Fa) x none=freshK (updKK R x none) Fa:=by
 funext z;unfold updKK freshK
 by_cases e:z=x
 .simp[e]
 .simp[e]
theorem turnK_drop(R:Nat->Option (Int×Int))(Fa:Nat->Bool)(x:Nat):updKK (turnK R Fa) x none=turnK (updKK R x none) Fa:=by
 funext z;unfold turnK;rw[<-freshK_drop];unfold updKK
 by_cases e:z=x
 .simp[e]
 .simp[e]
theorem farK_put(R:Nat->Option (Int×Int))(Fa:Nat->Bool)(x:Nat)(p:Int×Int):updKK (farK R Fa) x none=farK (updKK R x (some p)) (updB1 Fa x false):=by
 funext z;unfold updKK farK updB1
 by_cases e:z=x
 .simp[e]
 .simp[e]
theorem freshK_put(R:Nat->Option (Int×Int))(Fa:Nat->Bool)(x:Nat)(p:Int×Int):updKK (freshK R Fa) x (some p)=freshK (updKK R x (some p)) (updB1 Fa x false):=by
 funext z;unfold updKK freshK updB1
 by_cases e:z=x
 .simp[e]
 .simp[e]
theorem turnK_put(R:Nat->Option (Int×Int))(Fa:Nat->Bool)(x:Nat)(p:Int×Int):updKK (turnK R Fa) x (some (p.2,0))=turnK (updKK R x (some p)) (updB1 Fa x false):=by
 funext z;unfold turnK;rw[<-freshK_put];unfold updKK
 by_cases e:z=x
 .simp[e]
 .simp[e]
theorem turnK_some(R:Nat->Option (Int×Int))(Fa:Nat->Bool)(x:Nat):(turnK R Fa x).isSome=(freshK R Fa x).isSome:=by
 unfold turnK;simp
theorem ok_drop{R:Nat->Option (Int×Int)}(h:∀x a b,R x=some (a,b)->i64 a∧i64 b∧okN x)(x:Nat):∀z a b,updKK R x none z=some (a,b)->i64 a∧i64 b∧okN z:=by
 intro z a b q;by_cases e:z=x
 .subst e;rw[updK_sameK]at q;cases q
 .rw[updK_otherK _ _ e]at q;exact h z a b q
theorem ok_put{R:Nat->Option (Int×Int)}(h:∀x a b,R x=some (a,b)->i64 a∧i64 b∧okN x)(x:Nat){c d:Int}(hc:i64 c)(hd:i64 d)(hx:okN x):∀z a b,updKK R x (some (c,d)) z=some (a,b)->i64 a∧i64 b∧okN z:=by
 intro z a b q;by_cases e:z=x
 .subst e;rw[updK_sameK]at q;injection q with q;injection q with q1 q2;subst q1;subst q2;exact⟨hc,hd,hx⟩
 .rw[updK_otherK _ _ e]at q;exact h z a b q
theorem ca_drop(h:CAt w lb R Fa q1 q2 q3 nf nr F1 F2 F3){x:Nat}(hx:okN x):Calls prog 159 #[.pointer (some ⟨lb,6,none⟩),.int .i64 x] w fun e w'=>e=.returned (.tuple #[])∧CAt w' lb (updKK R x none) Fa q1 q2 q3 (lessN nf (farK R Fa x).isSome) (lessN nr (freshK R Fa x).isSome) F1 F2 F3∧Fr (fun i=>F1 i∨F2 i∨F3 i) w w':=by
 have HC:=Hd h;have H1:=Hd (qk_drop h.h1 hx);have p6:=h.p6;have lt:=h.lt;clear h;go_enter func159,ntmps159
 go_wp2_with fail
 refine H1.out.mono ?_;rintro e w1⟨rfl,h1,f1⟩;have p7:=f1.cell (p:=⟨lb,7,none⟩) lt HC.out.n1;rw[HC.out.p7]at p7;have lt1:lb<w1.heap.size:=Nat.lt_of_lt_of_le lt f1.size;have HK1:=Hd h1;have HF1:=Hd f1;have H2:=Hd (qk_drop (HC.out.h2.fr f1 (fun i q q'=>HC.out.d12 i q' q)) hx);clear h1 f1 p6;generalize hO1:(farK R Fa x).isSome=o1 at*;have HO1:=Hd hO1;clear hO1
 go_wp2_with fail
 refine H2.out.mono ?_;rintro e w2⟨rfl,h2,f2⟩;have p8:=f2.cell (p:=⟨lb,8,none⟩) lt1 HC.out.n2;rw[HF1.out.cell (p:=⟨lb,8,none⟩) lt HC.out.n1,HC.out.p8]at p8;have lt2:lb<w2.heap.size:=Nat.lt_of_lt_of_le lt1 f2.size;have HK2:=Hd h2;have HF2:=Hd f2;have H3:=Hd (qk_drop ((HC.out.h3.fr HF1.out (fun i q q'=>HC.out.d13 i q' q)).fr f2 (fun i q q'=>HC.out.d23 i q' q)) hx);clear h2 f2 p7;generalize hO2:(freshK R Fa x).isSome=o2 at*;have HO2:=Hd hO2;clear hO2;rw[turnK_some R Fa x,HO2.out]at H3
 go_wp2_with fail
 refine H3.out.mono ?_;rintro e w3⟨rfl,h3,f3⟩;have HK3:=Hd h3;have HF3:=Hd f3;clear h3 f3;go_wp2;go_returns;have hf:Fr (fun i=>F1 i∨F2 i∨F3 i) w w3:=((HF1.out.mono (fun _ q=>.inl q)).trans HF2.out (fun _ q=>.inl (.inr (.inl q)))).trans HF3.out (fun _ q=>.inl (.inr (.inr q)));have gl:¬(F1 lb∨F2 lb∨F3 lb):=fun q=>q.elim HC.out.n1 (fun q=>q.elim HC.out.n2 HC.out.n3)
 refine⟨rfl,⟨?_,?_,?_,Nat.lt_of_lt_of_le lt hf.size,?_,?_,?_,HC.out.d12,HC.out.d13,HC.out.d23,HC.out.n1,HC.out.n2,HC.out.n3,ok_drop HC.out.ok x⟩,hf⟩
 .rw[hf.cell (p:=⟨lb,6,none⟩) lt gl];exact HC.out.p6
 .rw[hf.cell (p:=⟨lb,7,none⟩) lt gl];exact HC.out.p7
 .rw[hf.cell (p:=⟨lb,8,none⟩) lt gl];exact HC.out.p8
 .rw[<-farK_drop,HO1.out];exact(HK1.out.fr HF2.out (HC.out.d12)).fr HF3.out (HC.out.d13)
 .rw[<-freshK_drop,HO2.out];exact HK2.out.fr HF3.out (HC.out.d23)
 .rw[<-turnK_drop,HO2.out];exact HK3.out
theorem CAt.less(h:CAt w lb R Fa q1 q2 q3 nf nr F1 F2 F3)(x:Nat):lessN nf (farK R Fa x).isSome+lessN nr (freshK R Fa x).isSome=lessN (nf+nr) (R x).isSome:=by
 have h1:=fun q=>h.h1.pos (x:=x) q
 have h2:=fun q=>h.h2.pos (x:=x) q
 unfold farK at h1⊢;unfold freshK at h2⊢;unfold lessN;rcases hFa:Fa x with _|_<;>rcases e:R x with _|p<;>simp[hFa,e]at h1 h2⊢<;>omega
theorem CAt.less_more(h:CAt w lb R Fa q1 q2 q3 nf nr F1 F2 F3)(x:Nat):lessN nf (farK R Fa x).isSome+moreN nr (freshK R Fa x).isSome=moreN (nf+nr) (R x).isSome:=by
 have h1:=fun q=>h.h1.pos (x:=x) q
 have h2:=fun q=>h.h2.pos (x:=x) q
 unfold farK at h1⊢;unfold freshK at h2⊢;unfold lessN moreN;rcases hFa:Fa x with _|_<;>rcases e:R x with _|p<;>simp[hFa,e]at h1 h2⊢<;>omega
theorem cc_drop(h:CC w lb R Fa t F){x:Nat}(hx:okN x):Calls prog 159 #[.pointer (some ⟨lb,6,none⟩),.int .i64 x] w fun e w'=>e=.returned (.tuple #[])∧CC w' lb (updKK R x none) Fa (lessN t (R x).isSome) F∧Fr F w w':=by
 obtain⟨q1,q2,q3,nf,nr,F1,F2,F3,h,rfl,hF⟩:=h;refine(ca_drop h hx).mono ?_;rintro e w'⟨he,hc,f⟩;exact⟨he,⟨q1,q2,q3,_,_,F1,F2,F3,hc,h.less x,hF⟩,f.mono (fun i q=>(hF i).2 q)⟩
theorem cc_put(h:CC w lb R Fa t F){x:Nat}{a b:Int}(hx:okN x)(ha:i64 a)(hb:i64 b)(ht:t<900000):Calls prog 155 #[.pointer (some ⟨lb,6,none⟩),.int .i64 x,.agg #[.int .i64 a,.int .i64 b]] w fun e w'=>e=.returned (.tuple #[])∧∃F',CC w' lb (updKK R x (some (a,b))) (updB1 Fa x false) (moreN t (R x).isSome) F'∧Fr F w w'∧∀i,F' i->F i∨w.heap.size<=i:=by
 obtain⟨q1,q2,q3,nf,nr,F1,F2,F3,h,rfl,hF⟩:=h;have HC:=Hd h;have HM:=Hd (h.less_more x);have HHF:=Hd hF;have fA:Fr NoF w (w.alloc (.cells #[.int .i64 a,.int .i64 b] 219)):=(Fr.refl NoF w).alloc _
 have bA:Blk (w.alloc (.cells #[.int .i64 a,.int .i64 b] 219)) w.heap.size 2 (fun i=>if i=0 then .int .i64 a else .int .i64 b):=Blk.new w _ 219 2 _ _ rfl rfl (fun i hi=>by
  match i,hi with
  |0,_=>rfl
  |1,_=>rfl)
 have H0:=Hd (h.fr fA (fun _ _ q=>q) (fun _ _ q=>q) (fun _ _ q=>q) (fun q=>q));have HFA:=Hd fA;have HBA:=Hd bA;have hsz:(w.alloc (.cells #[.int .i64 a,.int .i64 b] 219)).heap.size=w.heap.size+1:=by simp
 have hS:=Hd hsz;have H1:=Hd (qk_drop H0.out.h1 hx);have p6:=h.p6;have lt:=h.lt;clear h fA hsz bA hF;go_enter func155,ntmps155
 go_wp2_with fail
 generalize w.alloc (.cells #[.int .i64 a,.int .i64 b] 219)=w0 at*;refine H1.out.mono ?_;rintro e w1⟨rfl,h1,f1⟩;have lt0:=H0.out.lt;have p7:=f1.cell (p:=⟨lb,7,none⟩) lt0 HC.out.n1;rw[H0.out.p7]at p7;have lt1:lb<w1.heap.size:=Nat.lt_of_lt_of_le lt0 f1.size;have hb1:=HBA.out.fr f1 (fun q=>by have:=HC.out.h1.lt _ q;omega);have k0:w1.cell? ⟨w.heap.size,0,none⟩=some (.int .i64 a):=hb1.cell (i:=0) (by omega);have k1:w1.cell? ⟨w.heap.size,1,none⟩=some (.int .i64 b):=hb1.cell (i:=1) (by omega);have lk1:=hb1.lt;have HB1:=Hd hb1;have HK1:=Hd h1;have HF1:=Hd f1;have H2:=Hd (qk_put ((H0.out.h2.fr f1 (fun i q q'=>HC.out.d12 i q' q)).fr0 (Fr.refl NoF w1).drew) hx ha hb (by omega));clear h1 f1 p6 hb1 lt;generalize hO1:(farK R Fa x).isSome=o1 at*;have HO1:=Hd hO1;clear hO1
 go_wp2_with fail
 go_still_tail 6,(by kernel_rfl)
 go_wp2_with fail
 refine H2.out.mono ?_;rintro e w2⟨rfl,F2',h2,f2,hF2⟩;have hsz1:=HF1.out.size;have hzz:=HBA.out.lt;have f12:Fr F2 w1 w2:=((Fr.refl F2 w1).drew).trans f2 (fun _ q=>.inl q);have p8:=f12.cell (p:=⟨lb,8,none⟩) lt1 HC.out.n2;rw[HF1.out.cell (p:=⟨lb,8,none⟩) lt0 HC.out.n1,H0.out.p8]at p8;have lt2:lb<w2.heap.size:=Nat.lt_of_lt_of_le lt1 f12.size;have hb2:=HB1.out.fr f12 (fun q=>by have:=HC.out.h2.lt _ q;omega);have m1:w2.cell? ⟨w.heap.size,1,none⟩=some (.int .i64 b):=hb2.cell (i:=1) (by omega);have lk2:=hb2.lt;have HK2:=Hd h2;have HF2:=Hd f12;have HG2:=Hd hF2;have i0:i64 0:=i64_in ⟨by omega,by omega⟩;have H3:=Hd (qk_put ((((H0.out.h3.fr HF1.out (fun i q q'=>HC.out.d13 i q' q)).fr f12 (fun i q q'=>HC.out.d23 i q' q))).fr0 (Fr.refl NoF w2).drew) hx hb i0 (by omega));clear h2 f2 f12 p7 hb2 hF2 k0 k1 hsz1 hzz;generalize hO2:(freshK R Fa x).isSome=o2 at*;have HO2:=Hd hO2;clear hO2;rw[turnK_some R Fa x,HO2.out]at H3
 go_wp2_with fail
 go_still_tail 8,(by kernel_rfl)
 go_wp2_with fail
 refine H3.out.mono ?_;rintro e w3⟨rfl,F3',h3,f3,hF3⟩;have f23:Fr F3 w2 w3:=((Fr.refl F3 w2).drew).trans f3 (fun _ q=>.inl q);have HK3:=Hd h3;have HF3:=Hd f23;have HG3:=Hd hF3;clear h3 f3 f23 hF3;go_wp2;go_returns;have hf:Fr (fun i=>F1 i∨F2 i∨F3 i) w w3:=(((HFA.out.mono (fun _ q=>q.elim)).trans HF1.out (fun _ q=>.inl (.inl q))).trans HF2.out (fun _ q=>.inl (.inr (.inl q)))).trans HF3.out (fun _ q=>.inl (.inr (.inr q)));have gl:¬(F1 lb∨F2 lb∨F3 lb):=fun q=>q.elim HC.out.n1 (fun q=>q.elim HC.out.n2 HC.out.n3)
 have s1:w.heap.size+1<=w1.heap.size:=by have:=HF1.out.size;have:=HBA.out.lt;omega
 have s2:w1.heap.size<=w2.heap.size:=HF2.out.size;have g2:∀i,F2' i->F2 i∨w1.heap.size<=i:=HG2.out;have g3:∀i,F3' i->F3 i∨w2.heap.size<=i:=HG3.out;have b1:=HC.out.h1.lt;have b2:∀i,F2' i->i<w2.heap.size:=HK2.out.lt;have b3:=HC.out.h3.lt;have bl:=HC.out.lt;refine⟨rfl,fun i=>F1 i∨F2' i∨F3' i,⟨q1,q2,q3,_,_,F1,F2',F3',⟨?_,?_,?_,Nat.lt_of_lt_of_le HC.out.lt hf.size,?_,?_,?_,fun i q q'=>?_,fun i q q'=>?_,fun i q q'=>?_,HC.out.n1,fun q=>?_,fun q=>?_,ok_put HC.out.ok x ha hb hx⟩,HM.out,fun i=>Iff.rfl⟩,hf.mono (fun i q=>(HHF.out i).2 q),fun i q=>?_⟩
 .rw[hf.cell (p:=⟨lb,6,none⟩) HC.out.lt gl];exact HC.out.p6
 .rw[hf.cell (p:=⟨lb,7,none⟩) HC.out.lt gl];exact HC.out.p7
 .rw[hf.cell (p:=⟨lb,8,none⟩) HC.out.lt gl];exact HC.out.p8
 .rw[<-farK_put R Fa x (a,b)];exact(HK1.out.fr HF2.out (HC.out.d12)).fr HF3.out (HC.out.d13)
 .rw[<-freshK_put];exact HK2.out.fr HF3.out (fun i q q'=>(g2 i q).elim (fun q=>HC.out.d23 i q q') (fun q=>by have:=b3 i q';omega))
 .rw[<-turnK_put];exact HK3.out
 .exact(g2 i q').elim (HC.out.d12 i q) (fun z=>by have:=b1 i q;omega)
 .exact(g3 i q').elim (HC.out.d13 i q) (fun z=>by have:=b1 i q;omega)
 .rcases g3 i q' with z|z
  .exact(g2 i q).elim (fun q=>HC.out.d23 i q z) (fun q=>by have:=b3 i z;omega)
  .have:=b2 i q;omega
 .exact(g2 _ q).elim HC.out.n2 (fun z=>by omega)
 .exact(g3 _ q).elim HC.out.n3 (fun z=>by omega)
 .rcases q with q|q|q
  .exact .inl ((HHF.out i).2 (.inl q))
  .exact(g2 i q).elim (fun z=>.inl ((HHF.out i).2 (.inr (.inl z)))) (fun z=>.inr (by omega))
  .exact(g3 i q).elim (fun z=>.inl ((HHF.out i).2 (.inr (.inr z)))) (fun z=>.inr (by omega))
end
def Aged(R:Nat->Option (Int×Int))(Fa Fb:Nat->Bool)(until':Int):Prop:=∀x a b,R x=some (a,b)->(Fb x=true↔(Fa x=true∨b<=until'))
def Aging(R:Nat->Option (Int×Int))(Fa Fb:Nat->Bool)(until':Int):Prop:=∀x a b,R x=some (a,b)->((Fa x=true->Fb x=true)∧(Fb x=true->(Fa x=true∨b<=until')))
theorem Aging.refl(R:Nat->Option (Int×Int))(Fa:Nat->Bool)(u:Int):Aging R Fa Fa u:=fun x a b _=>⟨fun q=>q,fun q=>.inl q⟩
theorem Aging.step{R:Nat->Option (Int×Int)}{Fa Fb:Nat->Bool}{u:Int}(h:Aging R Fa Fb u){x:Nat}{a b:Int}(hx:R x=some (a,b))(hb:b<=u):Aging R Fa (updB1 Fb x true) u:=by
 intro z c d hz;by_cases e:z=x
 .subst e
  rw[hx]at hz
  injection hz with hz
  injection hz with h1 h2
  subst h1;subst h2;rw[updB1_same];exact⟨fun _=>rfl,fun _=>.inr hb⟩
 .rw[updB1_other _ _ e]
  exact h z c d hz
theorem Aging.done{R:Nat->Option (Int×Int)}{Fa Fb:Nat->Bool}{u:Int}(h:Aging R Fa Fb u)(hl:∀z c d,freshK R Fb z=some (c,d)->u<d):Aged R Fa Fb u:=by
 intro x a b hx;refine⟨(h x a b hx).2,fun q=>?_⟩;rcases q with q|q
 .exact(h x a b hx).1 q
 .cases e:Fb x with
  |true=>rfl
  |false=>
   have:=hl x a b (by unfold freshK;rw[e];exact hx);omega
theorem farK_moved{R:Nat->Option (Int×Int)}{Fa:Nat->Bool}{x:Nat}{p:Int×Int}(hx:R x=some p):updKK (farK (updKK R x none) Fa) x (some p)=farK R (updB1 Fa x true):=by
 funext z;unfold updKK farK updB1
 by_cases e:z=x
 .subst e;simp[hx]
 .simp[e]
theorem freshK_moved{R:Nat->Option (Int×Int)}{Fa:Nat->Bool}{x:Nat}:freshK (updKK R x none) Fa=freshK R (updB1 Fa x true):=by
 funext z;unfold updKK freshK updB1
 by_cases e:z=x
 .subst e;simp
 .simp[e]
theorem turnK_moved{R:Nat->Option (Int×Int)}{Fa:Nat->Bool}{x:Nat}:turnK (updKK R x none) Fa=turnK R (updB1 Fa x true):=by
 funext z;unfold turnK;rw[freshK_moved]
section
variable{w w':World}{lb t:Nat}{R:Nat->Option (Int×Int)}{Fa:Nat->Bool}{q1 q2 q3 nf nr:Nat}{F F1 F2 F3:Nat->Prop}
theorem CAt.moved{x:Nat}{p:Int×Int}(hx:R x=some p){nf' nr' nf2:Nat}(h:CAt w lb (updKK R x none) Fa q1 q2 q3 nf' nr' F1 F2 F3){F1':Nat->Prop}(h1:QK w' q1 (updKK (farK (updKK R x none) Fa) x (some p)) nf2 F1')(f:Fr F1 w w')(hF:∀i,F1' i->F1 i∨w.heap.size<=i)(ok:∀x a b,R x=some (a,b)->i64 a∧i64 b∧okN x):CAt w' lb R (updB1 Fa x true) q1 q2 q3 nf2 nr' F1' F2 F3:=by
 refine⟨?_,?_,?_,Nat.lt_of_lt_of_le h.lt f.size,?_,?_,?_,fun i q q'=>?_,fun i q q'=>?_,h.d23,fun q=>?_,h.n2,h.n3,ok⟩
 .rw[f.cell (p:=⟨lb,6,none⟩) h.lt h.n1];exact h.p6
 .rw[f.cell (p:=⟨lb,7,none⟩) h.lt h.n1];exact h.p7
 .rw[f.cell (p:=⟨lb,8,none⟩) h.lt h.n1];exact h.p8
 .rw[<-farK_moved hx];exact h1
 .rw[<-freshK_moved];exact h.h2.fr f (fun i q q'=>h.d12 i q' q)
 .rw[<-turnK_moved];exact h.h3.fr f (fun i q q'=>h.d13 i q' q)
 .exact(hF i q).elim (fun z=>h.d12 i z q') (fun z=>by have:=h.h2.lt i q';omega)
 .exact(hF i q).elim (fun z=>h.d13 i z q') (fun z=>by have:=h.h3.lt i q';omega)
 .exact(hF _ q).elim h.n1 (fun z=>by have:=h.lt;omega)
theorem fresh_turn{z:Nat}{c d:Int}(h:freshK R Fa z=some (c,d)):turnK R Fa z=some (d,0):=by unfold turnK;rw[h];rfl
theorem turn_fresh{z:Nat}{c d:Int}(h:turnK R Fa z=some (c,d)):∃e,freshK R Fa z=some (e,c)∧d=0:=by
 unfold turnK at h
 cases e:freshK R Fa z with
 |none=>rw[e]at h;cases h
 |some p=>
  rw[e]at h
  injection h with h
  injection h with h1 h2
  exact⟨p.1,by rw[<-h1],h2.symm⟩
theorem fresh_R{z:Nat}{c d:Int}(h:freshK R Fa z=some (c,d)):Fa z=false∧R z=some (c,d):=by
 unfold freshK at h
 cases e:Fa z with
 |true=>rw[e]at h;cases h
 |false=>rw[e]at h;exact⟨rfl,h⟩
theorem ca_age(h:CAt w lb R Fa q1 q2 q3 nf nr F1 F2 F3)(ht:nf+nr<900000)(u:Int):Calls prog 167 #[.pointer (some ⟨lb,6,none⟩),.int .i64 u] w fun e w'=>e=.returned (.tuple #[])∧∃Fb nf' nr' F1',CAt w' lb R Fb q1 q2 q3 nf' nr' F1' F2 F3∧nf'+nr'=nf+nr∧Aged R Fa Fb u∧Fr (fun i=>F1 i∨F2 i∨F3 i) w w'∧∀i,F1' i->F1 i∨w.heap.size<=i:=by
 have HC:=Hd h;clear h;go_enter func167,ntmps167
 go_wp2_with fail
 go_loopg [] nr (fun g wr=>∃Fb nf' F1',CAt wr lb R Fb q1 q2 q3 nf' g F1' F2 F3∧nf'+g=nf+nr∧Aging R Fa Fb u∧Fr (fun i=>F1 i∨F2 i∨F3 i) w wr∧∀i,F1' i->F1 i∨w.heap.size<=i)
 case atStart=>exact⟨Fa,nf,F1,HC.out,rfl,Aging.refl _ _ _,Fr.refl _ _,fun i q=>.inl q⟩
 case round=>
  obtain⟨Fb,nf',F1',hc,hn,hag,hf,hF1⟩:=hrel;have HK:=Hd hc;have HN:=Hd hn;have HAG:=Hd hag;have HFR:=Hd hf;have HF1:=Hd hF1;have p8:=hc.p8;have p7:=hc.p7;have lt:=hc.lt;by_cases h0:gk=0
  .subst h0
   have HL:=Hd (qk_least_no hc.h3);have HO:=Hd (qk_of hc.h2 (x:=0) (show(0:Nat)<4294967296 by omega))
   have hend:Aged R Fa Fb u:=hag.done (fun z c d q=>by
    have:=hc.h2.zero z;rw[this]at q
    cases q)
   have HE:=Hd hend;clear hc hn hag hf hF1 hend
   go_wp2_with fail
   refine HL.out.mono ?_;rintro e w1⟨rfl,rfl⟩
   go_wp2_with fail
   refine HO.out.mono ?_;rintro e w1⟨rfl,f1⟩;have HF2:=Hd f1;clear f1;go_wp2;go_returns;exact⟨rfl,Fb,nf',0,F1',HK.out.fr0 (HF2.out.alloc _),HN.out,HE.out,HFR.out.trans (HF2.out.alloc _) (fun _ q=>q.elim),HF1.out⟩
  .obtain⟨x,hl,HL⟩:=qk_least hc.h3 (by omega)
   obtain⟨tb,t0,htx,hmin⟩:=hl;obtain⟨ra,hfx,rfl⟩:=turn_fresh htx;obtain⟨hFx,hRx⟩:=fresh_R hfx;obtain⟨iA,iB,hx⟩:=hc.ok x ra tb hRx;have HO:=Hd (qk_of hc.h2 hx);rw[hfx]at HO;simp only[Option.getD_some,Option.isSome_some]at HO;have HX:=Hd hx;have HRX:=Hd hRx;have HFX:=Hd hFx;have HFR2:=Hd hfx;have HIA:=Hd iA;have HIB:=Hd iB;have HMIN:=Hd hmin;by_cases hb:u<tb
   .have hend:Aged R Fa Fb u:=hag.done (fun z c d q=>by
     rcases hmin z d 0 (fresh_turn q)with h|⟨h,_⟩<;>omega)
    have HE:=Hd hend;clear hc hn hag hf hF1 hend hx hRx hFx hfx iA iB hmin htx
    go_wp2_with fail
    refine(HL.out _ (Fr.refl _ _)).mono ?_;rintro e w1⟨rfl,rfl⟩
    go_wp2_with fail
    refine HO.out.mono ?_;rintro e w1⟨rfl,f1⟩;have HF2:=Hd f1;clear f1;go_wp2;go_returns;exact⟨rfl,Fb,nf',gk,F1',HK.out.fr0 (HF2.out.alloc _),HN.out,HE.out,HFR.out.trans (HF2.out.alloc _) (fun _ q=>q.elim),HF1.out⟩
   .have HB:=Hd hb
    have hd:decide (u<tb)=false:=by simpa using hb
    clear hc hn hag hf hF1 hx hRx hFx hfx iA iB hmin htx hb
    go_wp2_with fail
    refine(HL.out _ (Fr.refl _ _)).mono ?_;rintro e w1⟨rfl,rfl⟩
    go_wp2_with fail
    refine HO.out.mono ?_;rintro e w1⟨rfl,f1⟩;have HF2:=Hd f1;clear f1
    go_wp2_with fail
    have fA:Fr NoF wr (w1.alloc (.cells #[.int .i64 ra,.int .i64 tb] 219)):=HF2.out.alloc _
    have bA:Blk (w1.alloc (.cells #[.int .i64 ra,.int .i64 tb] 219)) w1.heap.size 2 (fun i=>if i=0 then .int .i64 ra else .int .i64 tb):=Blk.new w1 _ 219 2 _ _ rfl rfl (fun i hi=>by
     match i,hi with
     |0,_=>rfl
     |1,_=>rfl)
    have HFA:=Hd fA;have HBA:=Hd bA;have HKA:=Hd (HK.out.fr0 fA);have hwr:=HF2.out.size;clear fA bA HF2;generalize w1.heap.size=kb at*;generalize w1.alloc (.cells #[.int .i64 ra,.int .i64 tb] 219)=wA at*;refine(ca_drop HKA.out HX.out).mono ?_;rintro e w2⟨rfl,hc2,f2⟩;have nK:¬(F1' kb∨F2 kb∨F3 kb):=fun q=>q.elim (fun q=>by have:=HK.out.h1.lt _ q;omega) (fun q=>q.elim (fun q=>by have:=HK.out.h2.lt _ q;omega) (fun q=>by have:=HK.out.h3.lt _ q;omega))
    have hb2:=HBA.out.fr f2 nK;have k0:w2.cell? ⟨kb,0,none⟩=some (.int .i64 ra):=hb2.cell (i:=0) (by omega);have k1:w2.cell? ⟨kb,1,none⟩=some (.int .i64 tb):=hb2.cell (i:=1) (by omega);have lk:=hb2.lt;have p6:=hc2.p6;have lt2:=hc2.lt
    have hnf:lessN nf' (farK R Fb x).isSome=nf':=by
     have e:farK R Fb x=none:=by unfold farK;rw[HFX.out];rfl
     rw[e];rfl
    have hnr:lessN gk (freshK R Fb x).isSome=gk-1:=by rw[HFR2.out];rfl
    rw[hnf,hnr]at hc2;have e0:(farK (updKK R x none) Fb x).isSome=false:=by unfold farK;rw[updK_sameK];split<;>rfl
    have HP:=qk_put (hc2.h1.fr0 (Fr.refl NoF w2).drew) HX.out HIA.out HIB.out (by have:=HN.out;omega);rw[e0]at HP;have HP:=Hd HP;have HC2:=Hd hc2;have HF3:=Hd f2;clear hc2 f2 hb2 p7 p8 e0 hnf hnr nK
    go_wp2_with fail
    go_still_tail 6,(by kernel_rfl)
    go_wp2_with fail
    refine HP.out.mono ?_;rintro e w3⟨rfl,F1n,h3,f3,hF3⟩;have f23:Fr F1' w2 w3:=((Fr.refl F1' w2).drew).trans f3 (fun _ q=>.inl q);have hk3:=HC2.out.moved HRX.out h3 f23 hF3 HK.out.ok;have HK3:=Hd hk3;have HF4:=Hd f23;have HG3:=Hd hF3;clear h3 f3 f23 hF3 hk3 k0 k1;go_wp2
    go_roundg (gk-1)
    case rel=>
     have hw2:w.heap.size<=w2.heap.size:=Nat.le_trans HFR.out.size (Nat.le_trans HFA.out.size HF3.out.size);have g1:∀i,F1' i->F1 i∨w.heap.size<=i:=HF1.out;have g3:∀i,F1n i->F1' i∨w2.heap.size<=i:=HG3.out;refine⟨_,_,F1n,HK3.out,?_,HAG.out.step HRX.out (by have:=HB.out;omega),?_,fun i q=>?_⟩
     .show moreN nf' false+(gk-1)=nf+nr
      have:=HN.out;have:moreN nf' false=nf'+1:=rfl;omega
     .have fA:Fr (fun i=>F1' i∨F2 i∨F3 i) wr w3:=((HFA.out.mono (fun _ q=>q.elim)).trans HF3.out (fun _ q=>.inl q)).trans HF4.out (fun _ q=>.inl (.inl q))
      refine HFR.out.trans fA (fun i q=>?_);rcases q with q|q|q
      .exact(g1 i q).elim (fun z=>.inl (.inl z)) (fun z=>.inr z)
      .exact .inl (.inr (.inl q))
      .exact .inl (.inr (.inr q))
     .exact(g3 i q).elim (g1 i) (fun z=>.inr (by omega))
    case measure=>omega
def LeastC(R:Nat->Option (Int×Int))(Fb:Nat->Bool)(x:Nat):Prop:=LeastK (farK R Fb) x∨((∀z,farK R Fb z=none)∧LeastK (freshK R Fb) x)
theorem cc_least(h:CC w lb R Fa t F)(ht:t<900000)(h0:0<t)(u:Int):Calls prog 160 #[.pointer (some ⟨lb,6,none⟩),.int .i64 u] w fun e w'=>∃x:Nat,e=.returned (.tuple #[.int .i64 x,.bool true])∧∃Fb F',CC w' lb R Fb t F'∧Aged R Fa Fb u∧LeastC R Fb x∧Fr F w w'∧∀i,F' i->F i∨w.heap.size<=i:=by
 obtain⟨q1,q2,q3,nf,nr,F1,F2,F3,h,rfl,hF⟩:=h;have HA:=Hd (ca_age h ht u);have HH:=Hd h;have HHF:=Hd hF;clear h hF;go_enter func160,ntmps160
 go_wp2_with fail
 refine HA.out.mono ?_;rintro e w1⟨rfl,Fb,nf',nr',F1',hc,hn,hag,hf,hF1⟩;have p6:=hc.p6;have p7:=hc.p7;have lt:=hc.lt
 have HRES:Hid (CC w1 lb R Fb (nf+nr) (fun i=>F1' i∨F2 i∨F3 i)∧Aged R Fa Fb u∧Fr F w w1∧∀i,(F1' i∨F2 i∨F3 i)->F i∨w.heap.size<=i):=⟨⟨q1,q2,q3,nf',nr',F1',F2,F3,hc,hn,fun i=>Iff.rfl⟩,hag,hf.mono (fun i q=>(HHF.out i).2 q),fun i q=>by
  rcases q with q|q|q
  .exact(hF1 i q).elim (fun z=>.inl ((HHF.out i).2 (.inl z))) .inr
  .exact .inl ((HHF.out i).2 (.inr (.inl q)))
  .exact .inl ((HHF.out i).2 (.inr (.inr q)))⟩
 by_cases hz:nf'=0
 .subst hz
  have HL:=Hd (qk_least_no hc.h1);obtain⟨x,hl,HL2⟩:=qk_least hc.h2 (by omega);have HLC:Hid (LeastC R Fb x):=.inr ⟨fun z=>hc.h1.zero z,hl⟩;clear hc hn hag hf hF1 hl
  go_wp2_with fail
  refine HL.out.mono ?_;rintro e w2⟨rfl,rfl⟩
  go_wp2_with fail
  refine(HL2.out _ (Fr.refl _ _)).mono ?_;rintro e w2⟨rfl,rfl⟩;go_wp2;go_returns;exact⟨x,rfl,Fb,_,HRES.out.1,HRES.out.2.1,HLC.out,HRES.out.2.2⟩
 .obtain⟨x,hl,HL⟩:=qk_least hc.h1 (by omega)
  have HLC:Hid (LeastC R Fb x):=.inl hl;clear hc hn hag hf hF1 hl
  go_wp2_with fail
  refine(HL.out _ (Fr.refl _ _)).mono ?_;rintro e w2⟨rfl,rfl⟩;go_wp2;go_returns;exact⟨x,rfl,Fb,_,HRES.out.1,HRES.out.2.1,HLC.out,HRES.out.2.2⟩
end
structure LK where
 n:Nat
 k:Nat
 near:Nat
 kept:Nat
 T:Nat
 fr:Nat->Bool×Nat
 P:Nat->Option (Int×(Nat->Int))
 R:Nat->Option (Int×Int)
 Fa:Nat->Bool
 t:Nat
 Old:List (Nat×Nat)
 gone:Nat
def zeroPast:Value:=pastV 0 (fun _=>0)
def psM(P:Nat->Option (Int×(Nat->Int))):Int->Option Value:=fun x=>if x<0 then none else(P x.toNat).map fun p=>pastV p.1 p.2
def updOK{α:Type}(P:Nat->Option α)(x:Nat)(y:Option α):Nat->Option α:=fun z=>if z=x then y else P z
theorem updO_sameK{α:Type}(P:Nat->Option α)(x:Nat)(y:Option α):updOK P x y x=y:=if_pos rfl
theorem updO_otherK{α:Type}(P:Nat->Option α){x z:Nat}(y:Option α)(h:¬z=x):updOK P x y z=P z:=if_neg h
theorem psM_at(P:Nat->Option (Int×(Nat->Int)))(x:Nat):psM P (x:Int)=(P x).map fun p=>pastV p.1 p.2:=by
 unfold psM;rw[if_neg (by omega)];rfl
theorem psM_upd(P:Nat->Option (Int×(Nat->Int)))(x:Nat)(p:Option (Int×(Nat->Int))):updV (psM P) (x:Int) (p.map fun p=>pastV p.1 p.2)=psM (updOK P x p):=by
 funext z
 by_cases e:z=(x:Int)
 .subst e;rw[updV_same,psM_at,updO_sameK]
 .rw[updV_other _ _ e]
  unfold psM;by_cases h:z<0
  .rw[if_pos h,if_pos h]
  .rw[if_neg h,if_neg h,updO_otherK _ _ (by omega)]
def pastOf(S:LK)(x:Nat):Int×(Nat->Int):=(S.P x).getD (0,fun _=>0)
def rankOf(S:LK)(x:Nat):Int×Int:=((pastOf S x).2 (S.k-1),(pastOf S x).1)
def oldK(l:List (Nat×Nat)):Nat->Option (Int×Int):=fun x=>(l.find? fun p=>decide (p.1=x)).map fun p=>((p.2:Int),0)
def frC(f:Nat->Bool×Nat):Nat->Value:=fun i=>if i%2=0 then .bool (f (i/2)).1 else .int .u32 ((f (i/2)).2:Nat)
def lC(S:LK)(fb mb q1 q2 q3 q4:Nat):Nat->Value
 |0=>.int .i64 S.k
 |1=>.int .i64 S.near
 |2=>.int .i64 S.kept
 |3=>.int .i64 S.T
 |4=>.slice (some ⟨fb,0,none⟩) S.n S.n
 |5=>.map (some mb)
 |6=>.pointer (some ⟨q1,0,none⟩)
 |7=>.pointer (some ⟨q2,0,none⟩)
 |8=>.pointer (some ⟨q3,0,none⟩)
 |9=>.pointer (some ⟨q4,0,none⟩)
 |_=>.int .i64 S.gone
theorem MVp:MV prog 121 32 215 .u32 zeroPast:=⟨underlying121,underlying32,fun w=>by kernel_rfl⟩
def cntR(R:Nat->Option (Int×Int)):Nat->Nat
 |0=>0
 |n+1=>cntR R n+(if(R n).isSome then 1 else 0)
theorem cntR_le(R:Nat->Option (Int×Int))(n:Nat):cntR R n<=n:=by
 induction n with
 |zero=>exact Nat.le_refl _
 |succ n ih=>unfold cntR;split<;>omega
theorem cntR_beyond(R:Nat->Option (Int×Int)){x:Nat}(y:Option (Int×Int)):∀{n:Nat},n<=x->cntR (updKK R x y) n=cntR R n
 |0,_=>rfl
 |n+1,h=>by unfold cntR;rw[cntR_beyond R y (by omega),updK_otherK _ _ (by omega)]
theorem cntR_pos(R:Nat->Option (Int×Int)){x:Nat}:∀{n:Nat},x<n->(R x).isSome=true->0<cntR R n
 |n+1,h,hx=>by
  unfold cntR;by_cases e:x=n
  .subst e;rw[if_pos hx];omega
  .have:=cntR_pos R (n:=n) (by omega) hx;omega
theorem cntR_put(R:Nat->Option (Int×Int)){x:Nat}(p:Int×Int):∀{n:Nat},x<n->cntR (updKK R x (some p)) n=moreN (cntR R n) (R x).isSome
 |n+1,h=>by
  unfold cntR;by_cases e:x=n
  .subst e;rw[cntR_beyond R _ (Nat.le_refl _),updK_sameK];unfold moreN;cases(R x).isSome<;>simp
  .rw[cntR_put R p (n:=n) (by omega),updK_otherK _ _ (by omega)];unfold moreN;split<;>split<;>omega
theorem cntR_drop(R:Nat->Option (Int×Int)){x:Nat}:∀{n:Nat},x<n->cntR (updKK R x none) n=lessN (cntR R n) (R x).isSome
 |n+1,h=>by
  unfold cntR;by_cases e:x=n
  .subst e;rw[cntR_beyond R _ (Nat.le_refl _),updK_sameK];unfold lessN;cases(R x).isSome<;>simp
  .rw[cntR_drop R (n:=n) (by omega),updK_otherK _ _ (by omega)]
   have hp:=cntR_pos R (x:=x) (n:=n) (by omega);unfold lessN
   cases hx:(R x).isSome with
   |false=>simp
   |true=>have:=hp hx;rw[if_pos rfl,if_pos rfl];split<;>omega
structure LOk(S:LK):Prop where
 n1:1<=S.n∧S.n<=65535
 k1:1<=S.k∧S.k<=8
 near:S.near<=1000000
 kept:S.kept<=65535
 fr:∀i,okN (S.fr i).2
 past:∀x p,S.P x=some p->0<=p.1∧p.1<=S.T∧∀j,0<=p.2 j∧p.2 j<=p.1∧p.2 j<=p.2 0
 tn:S.t=cntR S.R S.n
 old:∀p,p∈S.Old->okN p.1∧p.2<=S.gone
 oldn:S.Old.length<=S.gone
 ord:S.Old.Pairwise fun p q=>p.2<q.2∧¬p.1=q.1
theorem LOk.tle{S:LK}(h:LOk S):S.t<=S.n:=by rw[h.tn];exact cntR_le _ _
structure LM(w:World)(lb:Nat)(S:LK)(fb mb q1 q2 q3 q4 ne:Nat)(FC F4:Nat->Prop):Prop where
 blk:Blk w lb 11 (lC S fb mb q1 q2 q3 q4)
 frs:Blk w fb (2*S.n) (frC S.fr)
 mp:MpV prog 32 .u32 zeroPast w mb ne (psM S.P)
 cc:CC w lb S.R S.Fa S.t FC
 qk:QK w q4 (oldK S.Old) S.Old.length F4
 d1:¬fb=lb
 d2:¬mb=lb
 d3:¬mb=fb
 d4:¬FC fb
 d5:¬FC mb
 d6:¬F4 lb
 d7:¬F4 fb
 d8:¬F4 mb
 d9:∀i,FC i->¬F4 i
 ne:ne<=S.T
 ok:LOk S
def LFK(lb fb mb:Nat)(FC F4:Nat->Prop):Nat->Prop:=fun i=>i=lb∨i=fb∨i=mb∨FC i∨F4 i
section
variable{w w':World}{lb fb mb q1 q2 q3 q4 ne:Nat}{S:LK}{FC F4:Nat->Prop}
theorem LM.fr0(h:LM w lb S fb mb q1 q2 q3 q4 ne FC F4)(f:Fr NoF w w'):LM w' lb S fb mb q1 q2 q3 q4 ne FC F4:=
 ⟨h.blk.fr f (fun q=>q),h.frs.fr f (fun q=>q),h.mp.fr f (fun q=>q),h.cc.fr0 f,h.qk.fr0 f,h.d1,h.d2,h.d3,h.d4,h.d5,h.d6,h.d7,h.d8,h.d9,h.ne,h.ok⟩
theorem LM.fr(h:LM w lb S fb mb q1 q2 q3 q4 ne FC F4){G:Nat->Prop}(f:Fr G w w')(g:∀i,LFK lb fb mb FC F4 i->¬G i):LM w' lb S fb mb q1 q2 q3 q4 ne FC F4:=
 ⟨h.blk.fr f (g lb (.inl rfl)),h.frs.fr f (g fb (.inr (.inl rfl))),h.mp.fr f (g mb (.inr (.inr (.inl rfl)))),h.cc.fr f (fun i q=>g i (.inr (.inr (.inr (.inl q))))) (g lb (.inl rfl)),h.qk.fr f (fun i q=>g i (.inr (.inr (.inr (.inr q))))),h.d1,h.d2,h.d3,h.d4,h.d5,h.d6,h.d7,h.d8,h.d9,h.ne,h.ok⟩
theorem LM.lt(h:LM w lb S fb mb q1 q2 q3 q4 ne FC F4):∀i,LFK lb fb mb FC F4 i->i<w.heap.size:=by
 rintro i(rfl|rfl|rfl|q|q)
 .exact h.blk.lt
 .exact h.frs.lt
 .exact h.mp.lt
 .exact h.cc.lt i q
 .exact h.qk.lt i q
theorem LM.ce(h:LM w lb S fb mb q1 q2 q3 q4 ne FC F4)(i:Nat)(hi:i<11):w.cell? ⟨lb,i,none⟩=some (lC S fb mb q1 q2 q3 q4 i):=h.blk.cell hi
theorem LM.full(h:LM w lb S fb mb q1 q2 q3 q4 ne FC F4){at':Nat}(ha:at'<S.n):w.cell? ⟨fb,at'*2,none⟩=some (.bool (S.fr at').1):=by
 have:=h.frs.cell (i:=at'*2) (by omega);unfold frC at this;rw[if_pos (by omega),show at'*2/2=at' from by omega]at this;exact this
theorem LM.page(h:LM w lb S fb mb q1 q2 q3 q4 ne FC F4){at':Nat}(ha:at'<S.n):w.cell? ⟨fb,at'*2+1,none⟩=some (.int .u32 ((S.fr at').2:Nat)):=by
 have:=h.frs.cell (i:=at'*2+1) (by omega);unfold frC at this;rw[if_neg (by omega),show(at'*2+1)/2=at' from by omega]at this;exact this
theorem isFrame_calls(h:LM w lb S fb mb q1 q2 q3 q4 ne FC F4){at':Nat}(ha:at'<S.n):Calls prog 151 #[.pointer (some ⟨lb,0,none⟩),.int .i64 at'] w fun e w'=>e=.returned (.bool true)∧w=w':=by
 have c4:w.cell? ⟨lb,4,none⟩=some (.slice (some ⟨fb,0,none⟩) S.n S.n):=h.ce 4 (by omega);have lt:=h.blk.lt;have h1:(at':Int)<S.n:=by omega
 have h2:0<=(at':Int):=by omega
 clear h;go_enter func151,ntmps151;go_wp2;go_returns;exact⟨rfl,rfl⟩
theorem has_callsK(h:LM w lb S fb mb q1 q2 q3 q4 ne FC F4){at':Nat}(ha:at'<S.n):Calls prog 157 #[.pointer (some ⟨lb,0,none⟩),.int .i64 at'] w fun e w'=>e=.returned (.bool (S.fr at').1)∧w=w':=by
 have HI:=Hd (isFrame_calls h ha);have c4:w.cell? ⟨lb,4,none⟩=some (.slice (some ⟨fb,0,none⟩) S.n S.n):=h.ce 4 (by omega);have lt:=h.blk.lt;have hfu:=h.full ha;have lf:=h.frs.lt;have h1:(at':Int)<S.n:=by omega
 have h2:0<=(at':Int):=by omega
 generalize(S.fr at').1=fu at*;clear h;go_enter func157,ntmps157
 go_wp2_with fail
 refine HI.out.mono ?_;rintro e w1⟨rfl,rfl⟩;go_wp2;go_returns;exact⟨rfl,rfl⟩
theorem lsize_calls(h:LM w lb S fb mb q1 q2 q3 q4 ne FC F4):Calls prog 149 #[.pointer (some ⟨lb,0,none⟩)] w fun e w'=>e=.returned (.int .i64 (S.t:Nat))∧Fr NoF w w':=by
 have HL:=Hd (cc_len h.cc (by have:=h.ok.tle;have:=h.ok.n1;omega));have lt:=h.blk.lt;clear h;go_enter func149,ntmps149
 go_wp2_with fail
 refine HL.out.mono ?_;rintro e w1⟨rfl,f1⟩;go_wp2;go_returns;exact⟨rfl,f1⟩
theorem lmiss_calls(w:World)(lb:Nat)(x:Int):Calls prog 146 #[.pointer (some ⟨lb,0,none⟩),.int .u32 x] w fun e w'=>e=.returned (.tuple #[])∧w=w':=by
 go_enter func146,ntmps146;go_wp2;go_returns;exact⟨rfl,rfl⟩
theorem okN_wf{x:Nat}(h:okN x):(Lit.int .u32 (x:Nat)).wf=true:=WalkArith.wf_u32 ⟨by omega,by unfold okN at h;omega⟩
end
end
end Go.Proofs.YtipopinjppjnfaaGreatDoor
