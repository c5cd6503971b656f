/- Part 16. -/
import Derived.Test.YtcccbdnojlmgaaaK15
namespace Go.Proofs.Ytcccbdnojlmgaaa
set_option linter.all false
set_option maxHeartbeats 16000000
set_option maxRecDepth 100000
section
open Go.Maps Go.RowKit
def vicS(S:LK)(x:Nat)(Fb:Nat->Bool):LK:=
 remS {S with Fa:=Fb,fr:=updF S.fr x (false,(S.fr x).2),R:=updK S.R x none,t:=S.t-1} (S.fr x).2
theorem LeastC.some{R:Nat->Option (Int×Int)}{Fb:Nat->Bool}{x:Nat}(h:LeastC R Fb x):(R x).isSome=true:=by
 rcases h with⟨a,b,h,_⟩|⟨_,a,b,h,_⟩
 .unfold farK at h
  split at h
  .rw[h];rfl
  .cases h
 .exact(by rw[(fresh_R h).2];rfl)
section
variable{w w':World}{lb fb mb q1 q2 q3 q4 ne:Nat}{S:LK}{FC F4:Nat->Prop}
theorem victim_no(h:LM w lb S fb mb q1 q2 q3 q4 ne FC F4)(h0:S.t=0)(page:Int):Calls Try.prog 17 #[.pointer (some ⟨lb,0,none⟩),.int .u32 page] w fun e w'=>e=.returned (.tuple #[.int .i64 0,.bool false])∧Fr NoF w w':=by
 have HS:=Lib.hid (lsize_calls h);rw[h0]at HS;clear h;go_enter Try.func17,Try.ntmps17
 go_wp2_with fail
 refine HS.out.mono ?_;rintro e w1⟨rfl,f1⟩;go_wp2;go_returns;exact⟨rfl,f1⟩
theorem victim_yes(h:LM w lb S fb mb q1 q2 q3 q4 ne FC F4)(h0:0<S.t)(page:Int)(hT:S.T<1000000)(hg:S.gone<800000)(hdom:∀x,(S.R x).isSome=true->x<S.n∧oldK S.Old (S.fr x).2=none):Calls Try.prog 17 #[.pointer (some ⟨lb,0,none⟩),.int .u32 page] w fun e w'=>∃x:Nat,e=.returned (.tuple #[.int .i64 x,.bool true])∧∃Fb ne' FC' F4',Aged S.R S.Fa Fb ((S.T:Int)-S.near)∧LeastC S.R Fb x∧LM w' lb (vicS S x Fb) fb mb q1 q2 q3 q4 ne' FC' F4'∧Fr (LF lb fb mb FC F4) w w'∧(∀i,FC' i->FC i∨w.heap.size<=i)∧∀i,F4' i->F4 i∨w.heap.size<=i:=by
 have HS:=Lib.hid (lsize_calls h);have hz:((S.t:Int)==0)=false:=by simp;omega
 have H0:=Lib.hid h;have HDOM:=Lib.hid hdom;have HG:=Lib.hid hg;have HPOS:=Lib.hid h0;have lt:=h.blk.lt;obtain⟨u,hu⟩:∃u:Int,u=(S.T:Int)-S.near:=⟨_,rfl⟩;have hw:IntKind.i64.wrap ((S.T:Int)-S.near)=u:=by rw[hu];exact IntWalk.i64_in _ (by have:=h.ok.near;omega)
 rw[<-hu];have HU:=Lib.hid hu;clear hu;have hz2:(S.t==0)=false:=by simp;omega
 clear h hdom hg h0 hT;go_enter Try.func17,Try.ntmps17
 go_wp2_with fail
 refine HS.out.mono ?_;rintro e wN⟨rfl,fN⟩;have h3:=H0.out.fr0 fN;have H3:=Lib.hid h3;have HFN:Hid (Fr (LF lb fb mb FC F4) w wN):=fN.none;have c1:wN.cell? ⟨lb,1,none⟩=some (.int .i64 S.near):=h3.ce 1 (by omega);have c3:wN.cell? ⟨lb,3,none⟩=some (.int .i64 S.T):=h3.ce 3 (by omega);have lt:=h3.blk.lt;clear h3 fN HS;have HC2:Hid (∀W,Fr NoF wN W->W.cell? ⟨lb,1,none⟩=some (.int .i64 S.near)∧W.cell? ⟨lb,3,none⟩=some (.int .i64 S.T)):=fun W f=>⟨(H3.out.fr0 f).ce 1 (by omega),(H3.out.fr0 f).ce 3 (by omega)⟩
 have HL:Hid (∀W,Fr NoF wN W->Calls Try.prog 35 #[.pointer (some ⟨lb,6,none⟩),.int .i64 u] W fun e w'=>∃x:Nat,e=.returned (.tuple #[.int .i64 x,.bool true])∧∃Fb FC',Aged S.R S.Fa Fb u∧LeastC S.R Fb x∧LM w' lb {S with Fa:=Fb} fb mb q1 q2 q3 q4 ne FC' F4∧Fr FC wN w'∧(∀i,FC' i->FC i∨wN.heap.size<=i)∧w'.cell? ⟨lb,1,none⟩=some (.int .i64 S.near)∧w'.cell? ⟨lb,3,none⟩=some (.int .i64 S.T)):=fun W f=>by
  have h5:=H3.out.fr0 f;refine(cc_least h5.cc (by have:=h5.ok.tle;have:=h5.ok.n1;omega) HPOS.out u).mono ?_;rintro e wP⟨x,he,Fb,FC',hc,hag,hl,fP,hFC⟩;have h6:=h5.newCC hc fP hFC H3.out.ok.tn;exact⟨x,he,Fb,FC',hag,hl,h6,f.none.trans fP (fun i q=>.inl q),fun i q=>(hFC i q).elim .inl (fun z=>.inr (Nat.le_trans f.size z)),h6.ce 1 (by omega),h6.ce 3 (by omega)⟩
 go_wp2_with fail
 go_region_held3(fun w'=>w'.cell? ⟨lb,1,none⟩=some (.int .i64 S.near)∧w'.cell? ⟨lb,3,none⟩=some (.int .i64 S.T))
  (first|exact HPP.out|exact HC2.out _ (by repeat(first|exact Fr.refl NoF _|apply Fr.drew)))
  (first
  |(go_at_call 35;(with_reducible refine(HL.out _ (by repeat(first|exact Fr.refl NoF _|apply Fr.drew))).mono ?_);rintro e wP⟨x,rfl,Fb,FC',hag,hl,h6,fP,hFC,hpp⟩;have HPP:=Lib.hid hpp;have H6:=Lib.hid h6;have FP:=Lib.hid fP;have HFC:=Lib.hid hFC;have HAG:=Lib.hid hag;have HLC:=Lib.hid hl;clear h6 fP hFC hpp hag hl))
 have hsome:=HLC.out.some;obtain⟨hx,hold⟩:=HDOM.out x hsome;have HE:=Lib.hid (empty_calls H6.out (at':=x) hx);have HXN:=Lib.hid hx;have HOLD:=Lib.hid hold;have HSM:=Lib.hid hsome;have HF6:Hid (Fr (LF lb fb mb FC F4) w wP):=HFN.out.trans FP.out (fun i q=>.inl (.inr (.inr (.inr (.inl q)))));have HFC2:Hid (∀i,FC' i->FC i∨w.heap.size<=i):=fun i q=>(HFC.out i q).elim .inl (fun z=>.inr (Nat.le_trans HFN.out.size z))
 clear HL HC2 c1 c3 lt hx hold hsome
 go_wp2_with fail
 refine HE.out.mono ?_;rintro e wE⟨rfl,h7,f7⟩;have e7:lessN S.t (S.R x).isSome=S.t-1:=by rw[HSM.out];rfl
 have h8:LM wE lb {S with Fa:=Fb,fr:=updF S.fr x (false,(S.fr x).2),R:=updK S.R x none,t:=S.t-1} fb mb q1 q2 q3 q4 ne FC' F4:=by rw[<-e7];exact h7
 have H8:=Lib.hid h8;have c4:wE.cell? ⟨lb,4,none⟩=some (.slice (some ⟨fb,0,none⟩) S.n S.n):=h8.ce 4 (by omega)
 have pgc:wE.cell? ⟨fb,x*2+1,none⟩=some (.int .u32 ((S.fr x).2:Nat)):=by
  have:=h8.page (at':=x) HXN.out;rw[show((updF S.fr x (false,(S.fr x).2)) x).2=(S.fr x).2 from by rw[updF_same]]at this;exact this
 have HRM:Hid (Calls Try.prog 37 #[.pointer (some ⟨lb,0,none⟩),.int .u32 ((S.fr x).2:Nat)] wE fun e w'=>e=.returned (.tuple #[])∧∃ne' F4',LM w' lb (vicS S x Fb) fb mb q1 q2 q3 q4 ne' FC' F4'∧Fr (LF lb fb mb FC' F4) wE w'∧∀i,F4' i->F4 i∨wE.heap.size<=i):=remember_calls h8 (H0.out.ok.fr x) HOLD.out HG.out;have lt:=h8.blk.lt;have lf:=h8.frs.lt;have hx1:(x:Int)<S.n:=by have:=HXN.out;omega
 have hx0:0<=(x:Int):=by omega
 have HF8:Hid (Fr (LF lb fb mb FC F4) w wE):=HF6.out.trans f7 (fun i q=>by
  rcases q with q|q
  .exact .inl (.inr (.inl q))
  .exact(HFC2.out i q).elim (fun z=>.inl (.inr (.inr (.inr (.inl z))))) .inr)
 clear h8 h7 f7 e7 HE;generalize hpg:(S.fr x).2=PG at pgc HRM;clear hpg
 go_wp2_with fail
 refine HRM.out.mono ?_;rintro e wR⟨rfl,ne',F4',h9,f9,hF4⟩;have H9:=Lib.hid h9;have HF9:=Lib.hid f9;have HF4:=Lib.hid hF4;clear h9 f9 hF4;go_wp2;go_returns;refine⟨x,rfl,Fb,ne',FC',F4',HAG.out,HLC.out,H9.out,HF8.out.trans HF9.out (fun i q=>?_),HFC2.out,fun i q=>(HF4.out i q).elim .inl (fun z=>.inr (Nat.le_trans HF8.out.size z))⟩;rcases q with q|q|q|q|q
 .exact .inl (.inl q)
 .exact .inl (.inr (.inl q))
 .exact .inl (.inr (.inr (.inl q)))
 .exact(HFC2.out i q).elim (fun z=>.inl (.inr (.inr (.inr (.inl z))))) .inr
 .exact .inl (.inr (.inr (.inr (.inr q))))
end
end
end Go.Proofs.Ytcccbdnojlmgaaa
