/- Part 11. -/
import Derived.Test.YtcccbdnojlmgaaaK09
import Derived.Test.YtcccbdnojlmgaaaK10
import Derived.StillTailTactics
namespace Go.Proofs.Ytcccbdnojlmgaaa
set_option linter.all false
set_option maxHeartbeats 16000000
set_option maxRecDepth 100000
section
open Go.Maps Go.RowKit
def farK(R:Nat->Option (Int×Int))(Fa:Nat->Bool):Nat->Option (Int×Int):=fun x=>if Fa x then R x else none
def freshK(R:Nat->Option (Int×Int))(Fa:Nat->Bool):Nat->Option (Int×Int):=fun x=>if Fa x then none else R x
def turnK(R:Nat->Option (Int×Int))(Fa:Nat->Bool):Nat->Option (Int×Int):=fun x=>(freshK R Fa x).map fun p=>(p.2,0)
def updB1(Fa:Nat->Bool)(x:Nat)(y:Bool):Nat->Bool:=fun z=>if z=x then y else Fa z
structure CAt(w:World)(lb:Nat)(R:Nat->Option (Int×Int))(Fa:Nat->Bool)(q1 q2 q3 nf nr:Nat)(F1 F2 F3:Nat->Prop):Prop where
 p6:w.cell? ⟨lb,6,none⟩=some (.pointer (some ⟨q1,0,none⟩))
 p7:w.cell? ⟨lb,7,none⟩=some (.pointer (some ⟨q2,0,none⟩))
 p8:w.cell? ⟨lb,8,none⟩=some (.pointer (some ⟨q3,0,none⟩))
 lt:lb<w.heap.size
 h1:QK w q1 (farK R Fa) nf F1
 h2:QK w q2 (freshK R Fa) nr F2
 h3:QK w q3 (turnK R Fa) nr F3
 d12:∀i,F1 i->¬F2 i
 d13:∀i,F1 i->¬F3 i
 d23:∀i,F2 i->¬F3 i
 n1:¬F1 lb
 n2:¬F2 lb
 n3:¬F3 lb
 ok:∀x a b,R x=some (a,b)->i64 a∧i64 b∧okN x
def CC(w:World)(lb:Nat)(R:Nat->Option (Int×Int))(Fa:Nat->Bool)(t:Nat)(F:Nat->Prop):Prop:=
 ∃q1 q2 q3 nf nr F1 F2 F3,CAt w lb R Fa q1 q2 q3 nf nr F1 F2 F3∧nf+nr=t∧∀i,F i↔F1 i∨F2 i∨F3 i
section
variable{w w':World}{lb t:Nat}{R:Nat->Option (Int×Int)}{Fa:Nat->Bool}{q1 q2 q3 nf nr:Nat}{F F1 F2 F3:Nat->Prop}
theorem CAt.fr(h:CAt w lb R Fa q1 q2 q3 nf nr F1 F2 F3){G:Nat->Prop}(f:Fr G w w')(g1:∀i,F1 i->¬G i)(g2:∀i,F2 i->¬G i)(g3:∀i,F3 i->¬G i)(gl:¬G lb):CAt w' lb R Fa q1 q2 q3 nf nr F1 F2 F3:=
 ⟨by rw[f.cell (p:=⟨lb,6,none⟩) h.lt gl];exact h.p6,by rw[f.cell (p:=⟨lb,7,none⟩) h.lt gl];exact h.p7,by rw[f.cell (p:=⟨lb,8,none⟩) h.lt gl];exact h.p8,Nat.lt_of_lt_of_le h.lt f.size,h.h1.fr f g1,h.h2.fr f g2,h.h3.fr f g3,h.d12,h.d13,h.d23,h.n1,h.n2,h.n3,h.ok⟩
theorem CAt.fr0(h:CAt w lb R Fa q1 q2 q3 nf nr F1 F2 F3)(f:Fr NoF w w'):CAt w' lb R Fa q1 q2 q3 nf nr F1 F2 F3:=h.fr f (fun _ _ q=>q) (fun _ _ q=>q) (fun _ _ q=>q) (fun q=>q)
theorem CC.fr(h:CC w lb R Fa t F){G:Nat->Prop}(f:Fr G w w')(g:∀i,F i->¬G i)(gl:¬G lb):CC w' lb R Fa t F:=by
 obtain⟨q1,q2,q3,nf,nr,F1,F2,F3,h,ht,hF⟩:=h;exact⟨q1,q2,q3,nf,nr,F1,F2,F3,h.fr f (fun i q=>g i ((hF i).2 (.inl q))) (fun i q=>g i ((hF i).2 (.inr (.inl q)))) (fun i q=>g i ((hF i).2 (.inr (.inr q)))) gl,ht,hF⟩
theorem CC.fr0(h:CC w lb R Fa t F)(f:Fr NoF w w'):CC w' lb R Fa t F:=h.fr f (fun _ _ q=>q) (fun q=>q)
theorem CC.lt(h:CC w lb R Fa t F):∀i,F i->i<w.heap.size:=by
 obtain⟨q1,q2,q3,nf,nr,F1,F2,F3,h,ht,hF⟩:=h;intro i q;rcases(hF i).1 q with q|q|q
 .exact h.h1.lt i q
 .exact h.h2.lt i q
 .exact h.h3.lt i q
theorem CC.notl(h:CC w lb R Fa t F):¬F lb:=by
 obtain⟨q1,q2,q3,nf,nr,F1,F2,F3,h,ht,hF⟩:=h;intro q;rcases(hF lb).1 q with q|q|q
 .exact h.n1 q
 .exact h.n2 q
 .exact h.n3 q
theorem parts_has(R:Nat->Option (Int×Int))(Fa:Nat->Bool)(x:Nat):((farK R Fa x).isSome||(freshK R Fa x).isSome)=(R x).isSome:=by
 unfold farK freshK
 cases Fa x<;>simp
theorem cc_has(h:CC w lb R Fa t F){x:Nat}(hx:okN x):Calls Try.prog 30 #[.pointer (some ⟨lb,6,none⟩),.int .i64 x] w fun e w'=>e=.returned (.bool (R x).isSome)∧Fr NoF w w':=by
 obtain⟨q1,q2,q3,nf,nr,F1,F2,F3,h,ht,hF⟩:=h;have HP:=Lib.hid (parts_has R Fa x);have HC:=Lib.hid h;have H1:Hid (Calls Try.prog 48 #[.pointer (some ⟨q1,0,none⟩),.int .i64 x] w fun e w'=>e=.returned (.tuple #[.agg #[.int .i64 ((farK R Fa x).getD (0,0)).1,.int .i64 ((farK R Fa x).getD (0,0)).2],.bool (farK R Fa x).isSome])∧Fr NoF w w'):=qk_of h.h1 hx;have H2:Hid (∀W,Fr NoF w W->Calls Try.prog 48 #[.pointer (some ⟨q2,0,none⟩),.int .i64 x] W fun e w'=>e=.returned (.tuple #[.agg #[.int .i64 ((freshK R Fa x).getD (0,0)).1,.int .i64 ((freshK R Fa x).getD (0,0)).2],.bool (freshK R Fa x).isSome])∧Fr NoF W w'):=fun W f=>qk_of (h.h2.fr0 f) hx
 have p6:=h.p6;have lt:=h.lt;clear h hF ht;rw[<-HP.out];clear HP;generalize((farK R Fa x).getD (0,0)).1=a1 at*;generalize((farK R Fa x).getD (0,0)).2=a2 at*;generalize((freshK R Fa x).getD (0,0)).1=b1 at*;generalize((freshK R Fa x).getD (0,0)).2=b2 at*;generalize(farK R Fa x).isSome=o1 at*;generalize(freshK R Fa x).isSome=o2 at*;go_enter Try.func30,Try.ntmps30
 go_wp2_with fail
 refine H1.out.mono ?_;rintro e w1⟨rfl,f1⟩;have p7:=(HC.out.fr f1 (fun _ _ q=>q) (fun _ _ q=>q) (fun _ _ q=>q) (fun q=>q)).p7;have lt1:=(HC.out.fr f1 (fun _ _ q=>q) (fun _ _ q=>q) (fun _ _ q=>q) (fun q=>q)).lt;have HF1:=Lib.hid f1;clear p6 lt f1
 cases o1<;>
 (go_wp2_with fail
  refine(H2.out _ (by first|exact HF1.out.alloc _|exact(HF1.out.alloc _).setCell (.inr HF1.out.size) _)).mono ?_;rintro e w2⟨rfl,f2⟩;have HF2:=Lib.hid f2;clear f2;go_wp2;go_returns;exact⟨rfl,by first|exact((HF1.out.alloc _).trans HF2.out (fun _ q=>q.elim)).alloc _|exact(((HF1.out.alloc _).setCell (.inr HF1.out.size) _).trans HF2.out (fun _ q=>q.elim)).alloc _⟩)
theorem cc_len(h:CC w lb R Fa t F)(ht:t<900000):Calls Try.prog 40 #[.pointer (some ⟨lb,6,none⟩)] w fun e w'=>e=.returned (.int .i64 (t:Nat))∧Fr NoF w w':=by
 obtain⟨q1,q2,q3,nf,nr,F1,F2,F3,h,rfl,hF⟩:=h;have H1:Hid (∀W,Fr NoF w W->Calls Try.prog 38 #[.pointer (some ⟨q1,0,none⟩)] W fun e w'=>e=.returned (.int .i64 (nf:Nat))∧W=w'):=fun W f=>qk_len (h.h1.fr0 f)
 have H2:Hid (∀W,Fr NoF w W->Calls Try.prog 38 #[.pointer (some ⟨q2,0,none⟩)] W fun e w'=>e=.returned (.int .i64 (nr:Nat))∧W=w'):=fun W f=>qk_len (h.h2.fr0 f)
 have p6:=h.p6;have p7:=h.p7;have lt:=h.lt;have hw:IntKind.i64.wrap ((nf:Int)+nr)=((nf+nr:Nat):Int):=by rw[show((nf:Int)+nr)=((nf+nr:Nat):Int)from by omega];exact IntWalk.i64_in _ (by omega)
 clear h hF ht;go_enter Try.func40,Try.ntmps40
 go_wp2_with fail
 go_quiet ((go_at_call 38;first|(with_reducible exact qs (H1.out _ (by first|exact Fr.refl _ _|exact(Fr.refl NoF w).drew|exact(Fr.refl NoF w).drewN _)))|(with_reducible exact qs (H2.out _ (by first|exact Fr.refl _ _|exact(Fr.refl NoF w).drew|exact(Fr.refl NoF w).drewN _)))))
 go_wp2;go_returns;exact⟨rfl,by first|exact Fr.refl _ _|exact(Fr.refl NoF w).drewN _⟩
theorem updB1_same(Fa:Nat->Bool)(x:Nat)(y:Bool):updB1 Fa x y x=y:=if_pos rfl
theorem updB1_other(Fa:Nat->Bool){x z:Nat}(y:Bool)(h:¬z=x):updB1 Fa x y z=Fa z:=if_neg h
theorem farK_drop(R:Nat->Option (Int×Int))(Fa:Nat->Bool)(x:Nat):updK (farK R Fa) x none=farK (updK R x none) Fa:=by
 funext z;unfold updK farK
 by_cases e:z=x
 .simp[e]
 .simp[e]
theorem freshK_drop(R:Nat->Option (Int×Int))(Fa:Nat->Bool)(x:Nat):updK (freshK R Fa) x none=freshK (updK R x none) Fa:=by
 funext z;unfold updK freshK
 by_cases e:z=x
 .simp[e]
 .simp[e]
theorem turnK_drop(R:Nat->Option (Int×Int))(Fa:Nat->Bool)(x:Nat):updK (turnK R Fa) x none=turnK (updK R x none) Fa:=by
 funext z;unfold turnK;rw[<-freshK_drop];unfold updK
 by_cases e:z=x
 .simp[e]
 .simp[e]
theorem farK_put(R:Nat->Option (Int×Int))(Fa:Nat->Bool)(x:Nat)(p:Int×Int):updK (farK R Fa) x none=farK (updK R x (some p)) (updB1 Fa x false):=by
 funext z;unfold updK farK updB1
 by_cases e:z=x
 .simp[e]
 .simp[e]
theorem freshK_put(R:Nat->Option (Int×Int))(Fa:Nat->Bool)(x:Nat)(p:Int×Int):updK (freshK R Fa) x (some p)=freshK (updK R x (some p)) (updB1 Fa x false):=by
 funext z;unfold updK freshK updB1
 by_cases e:z=x
 .simp[e]
 .simp[e]
theorem turnK_put(R:Nat->Option (Int×Int))(Fa:Nat->Bool)(x:Nat)(p:Int×Int):updK (turnK R Fa) x (some (p.2,0))=turnK (updK R x (some p)) (updB1 Fa x false):=by
 funext z;unfold turnK;rw[<-freshK_put];unfold updK
 by_cases e:z=x
 .simp[e]
 .simp[e]
theorem turnK_some(R:Nat->Option (Int×Int))(Fa:Nat->Bool)(x:Nat):(turnK R Fa x).isSome=(freshK R Fa x).isSome:=by
 unfold turnK;simp
theorem ok_drop{R:Nat->Option (Int×Int)}(h:∀x a b,R x=some (a,b)->i64 a∧i64 b∧okN x)(x:Nat):∀z a b,updK R x none z=some (a,b)->i64 a∧i64 b∧okN z:=by
 intro z a b q;by_cases e:z=x
 .subst e;rw[updK_same]at q;cases q
 .rw[updK_other _ _ e]at q;exact h z a b q
theorem ok_put{R:Nat->Option (Int×Int)}(h:∀x a b,R x=some (a,b)->i64 a∧i64 b∧okN x)(x:Nat){c d:Int}(hc:i64 c)(hd:i64 d)(hx:okN x):∀z a b,updK R x (some (c,d)) z=some (a,b)->i64 a∧i64 b∧okN z:=by
 intro z a b q;by_cases e:z=x
 .subst e;rw[updK_same]at q;injection q with q;injection q with q1 q2;subst q1;subst q2;exact⟨hc,hd,hx⟩
 .rw[updK_other _ _ e]at q;exact h z a b q
theorem ca_drop(h:CAt w lb R Fa q1 q2 q3 nf nr F1 F2 F3){x:Nat}(hx:okN x):Calls Try.prog 34 #[.pointer (some ⟨lb,6,none⟩),.int .i64 x] w fun e w'=>e=.returned (.tuple #[])∧CAt w' lb (updK R x none) Fa q1 q2 q3 (lessN nf (farK R Fa x).isSome) (lessN nr (freshK R Fa x).isSome) F1 F2 F3∧Fr (fun i=>F1 i∨F2 i∨F3 i) w w':=by
 have HC:=Lib.hid h;have H1:=Lib.hid (qk_drop h.h1 hx);have p6:=h.p6;have lt:=h.lt;clear h;go_enter Try.func34,Try.ntmps34
 go_wp2_with fail
 refine H1.out.mono ?_;rintro e w1⟨rfl,h1,f1⟩;have p7:=f1.cell (p:=⟨lb,7,none⟩) lt HC.out.n1;rw[HC.out.p7]at p7;have lt1:lb<w1.heap.size:=Nat.lt_of_lt_of_le lt f1.size;have HK1:=Lib.hid h1;have HF1:=Lib.hid f1;have H2:=Lib.hid (qk_drop (HC.out.h2.fr f1 (fun i q q'=>HC.out.d12 i q' q)) hx);clear h1 f1 p6;generalize hO1:(farK R Fa x).isSome=o1 at*;have HO1:=Lib.hid hO1;clear hO1
 go_wp2_with fail
 refine H2.out.mono ?_;rintro e w2⟨rfl,h2,f2⟩;have p8:=f2.cell (p:=⟨lb,8,none⟩) lt1 HC.out.n2;rw[HF1.out.cell (p:=⟨lb,8,none⟩) lt HC.out.n1,HC.out.p8]at p8;have lt2:lb<w2.heap.size:=Nat.lt_of_lt_of_le lt1 f2.size;have HK2:=Lib.hid h2;have HF2:=Lib.hid f2;have H3:=Lib.hid (qk_drop ((HC.out.h3.fr HF1.out (fun i q q'=>HC.out.d13 i q' q)).fr f2 (fun i q q'=>HC.out.d23 i q' q)) hx);clear h2 f2 p7;generalize hO2:(freshK R Fa x).isSome=o2 at*;have HO2:=Lib.hid hO2;clear hO2;rw[turnK_some R Fa x,HO2.out]at H3
 go_wp2_with fail
 refine H3.out.mono ?_;rintro e w3⟨rfl,h3,f3⟩;have HK3:=Lib.hid h3;have HF3:=Lib.hid f3;clear h3 f3;go_wp2;go_returns;have hf:Fr (fun i=>F1 i∨F2 i∨F3 i) w w3:=((HF1.out.mono (fun _ q=>.inl q)).trans HF2.out (fun _ q=>.inl (.inr (.inl q)))).trans HF3.out (fun _ q=>.inl (.inr (.inr q)));have gl:¬(F1 lb∨F2 lb∨F3 lb):=fun q=>q.elim HC.out.n1 (fun q=>q.elim HC.out.n2 HC.out.n3)
 refine⟨rfl,⟨?_,?_,?_,Nat.lt_of_lt_of_le lt hf.size,?_,?_,?_,HC.out.d12,HC.out.d13,HC.out.d23,HC.out.n1,HC.out.n2,HC.out.n3,ok_drop HC.out.ok x⟩,hf⟩
 .rw[hf.cell (p:=⟨lb,6,none⟩) lt gl];exact HC.out.p6
 .rw[hf.cell (p:=⟨lb,7,none⟩) lt gl];exact HC.out.p7
 .rw[hf.cell (p:=⟨lb,8,none⟩) lt gl];exact HC.out.p8
 .rw[<-farK_drop,HO1.out];exact(HK1.out.fr HF2.out (HC.out.d12)).fr HF3.out (HC.out.d13)
 .rw[<-freshK_drop,HO2.out];exact HK2.out.fr HF3.out (HC.out.d23)
 .rw[<-turnK_drop,HO2.out];exact HK3.out
theorem CAt.less(h:CAt w lb R Fa q1 q2 q3 nf nr F1 F2 F3)(x:Nat):lessN nf (farK R Fa x).isSome+lessN nr (freshK R Fa x).isSome=lessN (nf+nr) (R x).isSome:=by
 have h1:=fun q=>h.h1.pos (x:=x) q
 have h2:=fun q=>h.h2.pos (x:=x) q
 unfold farK at h1⊢;unfold freshK at h2⊢;unfold lessN;rcases hFa:Fa x with _|_<;>rcases e:R x with _|p<;>simp[hFa,e]at h1 h2⊢<;>omega
theorem CAt.less_more(h:CAt w lb R Fa q1 q2 q3 nf nr F1 F2 F3)(x:Nat):lessN nf (farK R Fa x).isSome+moreN nr (freshK R Fa x).isSome=moreN (nf+nr) (R x).isSome:=by
 have h1:=fun q=>h.h1.pos (x:=x) q
 have h2:=fun q=>h.h2.pos (x:=x) q
 unfold farK at h1⊢;unfold freshK at h2⊢;unfold lessN moreN;rcases hFa:Fa x with _|_<;>rcases e:R x with _|p<;>simp[hFa,e]at h1 h2⊢<;>omega
theorem cc_drop(h:CC w lb R Fa t F){x:Nat}(hx:okN x):Calls Try.prog 34 #[.pointer (some ⟨lb,6,none⟩),.int .i64 x] w fun e w'=>e=.returned (.tuple #[])∧CC w' lb (updK R x none) Fa (lessN t (R x).isSome) F∧Fr F w w':=by
 obtain⟨q1,q2,q3,nf,nr,F1,F2,F3,h,rfl,hF⟩:=h;refine(ca_drop h hx).mono ?_;rintro e w'⟨he,hc,f⟩;exact⟨he,⟨q1,q2,q3,_,_,F1,F2,F3,hc,h.less x,hF⟩,f.mono (fun i q=>(hF i).2 q)⟩
theorem cc_put(h:CC w lb R Fa t F){x:Nat}{a b:Int}(hx:okN x)(ha:i64 a)(hb:i64 b)(ht:t<900000):Calls Try.prog 31 #[.pointer (some ⟨lb,6,none⟩),.int .i64 x,.agg #[.int .i64 a,.int .i64 b]] w fun e w'=>e=.returned (.tuple #[])∧∃F',CC w' lb (updK R x (some (a,b))) (updB1 Fa x false) (moreN t (R x).isSome) F'∧Fr F w w'∧∀i,F' i->F i∨w.heap.size<=i:=by
 obtain⟨q1,q2,q3,nf,nr,F1,F2,F3,h,rfl,hF⟩:=h;have HC:=Lib.hid h;have HM:=Lib.hid (h.less_more x);have HHF:=Lib.hid hF;have fA:Fr NoF w (w.alloc (.cells #[.int .i64 a,.int .i64 b] 89)):=(Fr.refl NoF w).alloc _
 have bA:Blk (w.alloc (.cells #[.int .i64 a,.int .i64 b] 89)) w.heap.size 2 (fun i=>if i=0 then .int .i64 a else .int .i64 b):=Blk.new w _ 89 2 _ _ rfl rfl (fun i hi=>by
  match i,hi with
  |0,_=>rfl
  |1,_=>rfl)
 have H0:=Lib.hid (h.fr fA (fun _ _ q=>q) (fun _ _ q=>q) (fun _ _ q=>q) (fun q=>q));have HFA:=Lib.hid fA;have HBA:=Lib.hid bA;have hsz:(w.alloc (.cells #[.int .i64 a,.int .i64 b] 89)).heap.size=w.heap.size+1:=by simp
 have hS:=Lib.hid hsz;have H1:=Lib.hid (qk_drop H0.out.h1 hx);have p6:=h.p6;have lt:=h.lt;clear h fA hsz bA hF;go_enter Try.func31,Try.ntmps31
 go_wp2_with fail
 generalize w.alloc (.cells #[.int .i64 a,.int .i64 b] 89)=w0 at*;refine H1.out.mono ?_;rintro e w1⟨rfl,h1,f1⟩;have lt0:=H0.out.lt;have p7:=f1.cell (p:=⟨lb,7,none⟩) lt0 HC.out.n1;rw[H0.out.p7]at p7;have lt1:lb<w1.heap.size:=Nat.lt_of_lt_of_le lt0 f1.size;have hb1:=HBA.out.fr f1 (fun q=>by have:=HC.out.h1.lt _ q;omega);have k0:w1.cell? ⟨w.heap.size,0,none⟩=some (.int .i64 a):=hb1.cell (i:=0) (by omega);have k1:w1.cell? ⟨w.heap.size,1,none⟩=some (.int .i64 b):=hb1.cell (i:=1) (by omega);have lk1:=hb1.lt;have HB1:=Lib.hid hb1;have HK1:=Lib.hid h1;have HF1:=Lib.hid f1;have H2:=Lib.hid (qk_put ((H0.out.h2.fr f1 (fun i q q'=>HC.out.d12 i q' q)).fr0 (Fr.refl NoF w1).drew) hx ha hb (by omega));clear h1 f1 p6 hb1 lt;generalize hO1:(farK R Fa x).isSome=o1 at*;have HO1:=Lib.hid hO1;clear hO1
 go_wp2_with fail
 go_still_tail 6,(by kernel_rfl)
 go_wp2_with fail
 refine H2.out.mono ?_;rintro e w2⟨rfl,F2',h2,f2,hF2⟩;have hsz1:=HF1.out.size;have hzz:=HBA.out.lt;have f12:Fr F2 w1 w2:=((Fr.refl F2 w1).drew).trans f2 (fun _ q=>.inl q);have p8:=f12.cell (p:=⟨lb,8,none⟩) lt1 HC.out.n2;rw[HF1.out.cell (p:=⟨lb,8,none⟩) lt0 HC.out.n1,H0.out.p8]at p8;have lt2:lb<w2.heap.size:=Nat.lt_of_lt_of_le lt1 f12.size;have hb2:=HB1.out.fr f12 (fun q=>by have:=HC.out.h2.lt _ q;omega);have m1:w2.cell? ⟨w.heap.size,1,none⟩=some (.int .i64 b):=hb2.cell (i:=1) (by omega);have lk2:=hb2.lt;have HK2:=Lib.hid h2;have HF2:=Lib.hid f12;have HG2:=Lib.hid hF2;have i0:i64 0:=i64_in ⟨by omega,by omega⟩;have H3:=Lib.hid (qk_put ((((H0.out.h3.fr HF1.out (fun i q q'=>HC.out.d13 i q' q)).fr f12 (fun i q q'=>HC.out.d23 i q' q))).fr0 (Fr.refl NoF w2).drew) hx hb i0 (by omega));clear h2 f2 f12 p7 hb2 hF2 k0 k1 hsz1 hzz;generalize hO2:(freshK R Fa x).isSome=o2 at*;have HO2:=Lib.hid hO2;clear hO2;rw[turnK_some R Fa x,HO2.out]at H3
 go_wp2_with fail
 go_still_tail 8,(by kernel_rfl)
 go_wp2_with fail
 refine H3.out.mono ?_;rintro e w3⟨rfl,F3',h3,f3,hF3⟩;have f23:Fr F3 w2 w3:=((Fr.refl F3 w2).drew).trans f3 (fun _ q=>.inl q);have HK3:=Lib.hid h3;have HF3:=Lib.hid f23;have HG3:=Lib.hid hF3;clear h3 f3 f23 hF3;go_wp2;go_returns;have hf:Fr (fun i=>F1 i∨F2 i∨F3 i) w w3:=(((HFA.out.mono (fun _ q=>q.elim)).trans HF1.out (fun _ q=>.inl (.inl q))).trans HF2.out (fun _ q=>.inl (.inr (.inl q)))).trans HF3.out (fun _ q=>.inl (.inr (.inr q)));have gl:¬(F1 lb∨F2 lb∨F3 lb):=fun q=>q.elim HC.out.n1 (fun q=>q.elim HC.out.n2 HC.out.n3)
 have s1:w.heap.size+1<=w1.heap.size:=by have:=HF1.out.size;have:=HBA.out.lt;omega
 have s2:w1.heap.size<=w2.heap.size:=HF2.out.size;have g2:∀i,F2' i->F2 i∨w1.heap.size<=i:=HG2.out;have g3:∀i,F3' i->F3 i∨w2.heap.size<=i:=HG3.out;have b1:=HC.out.h1.lt;have b2:∀i,F2' i->i<w2.heap.size:=HK2.out.lt;have b3:=HC.out.h3.lt;have bl:=HC.out.lt;refine⟨rfl,fun i=>F1 i∨F2' i∨F3' i,⟨q1,q2,q3,_,_,F1,F2',F3',⟨?_,?_,?_,Nat.lt_of_lt_of_le HC.out.lt hf.size,?_,?_,?_,fun i q q'=>?_,fun i q q'=>?_,fun i q q'=>?_,HC.out.n1,fun q=>?_,fun q=>?_,ok_put HC.out.ok x ha hb hx⟩,HM.out,fun i=>Iff.rfl⟩,hf.mono (fun i q=>(HHF.out i).2 q),fun i q=>?_⟩
 .rw[hf.cell (p:=⟨lb,6,none⟩) HC.out.lt gl];exact HC.out.p6
 .rw[hf.cell (p:=⟨lb,7,none⟩) HC.out.lt gl];exact HC.out.p7
 .rw[hf.cell (p:=⟨lb,8,none⟩) HC.out.lt gl];exact HC.out.p8
 .rw[<-farK_put R Fa x (a,b)];exact(HK1.out.fr HF2.out (HC.out.d12)).fr HF3.out (HC.out.d13)
 .rw[<-freshK_put];exact HK2.out.fr HF3.out (fun i q q'=>(g2 i q).elim (fun q=>HC.out.d23 i q q') (fun q=>by have:=b3 i q';omega))
 .rw[<-turnK_put];exact HK3.out
 .exact(g2 i q').elim (HC.out.d12 i q) (fun z=>by have:=b1 i q;omega)
 .exact(g3 i q').elim (HC.out.d13 i q) (fun z=>by have:=b1 i q;omega)
 .rcases g3 i q' with z|z
  .exact(g2 i q).elim (fun q=>HC.out.d23 i q z) (fun q=>by have:=b3 i z;omega)
  .have:=b2 i q;omega
 .exact(g2 _ q).elim HC.out.n2 (fun z=>by omega)
 .exact(g3 _ q).elim HC.out.n3 (fun z=>by omega)
 .rcases q with q|q|q
  .exact .inl ((HHF.out i).2 (.inl q))
  .exact(g2 i q).elim (fun z=>.inl ((HHF.out i).2 (.inr (.inl z)))) (fun z=>.inr (by omega))
  .exact(g3 i q).elim (fun z=>.inl ((HHF.out i).2 (.inr (.inr z)))) (fun z=>.inr (by omega))
end
end
end Go.Proofs.Ytcccbdnojlmgaaa
