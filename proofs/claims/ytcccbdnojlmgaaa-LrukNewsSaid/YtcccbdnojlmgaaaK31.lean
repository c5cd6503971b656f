/- Part 31. -/
import Derived.Test.YtcccbdnojlmgaaaK21
namespace Go.Proofs.Ytcccbdnojlmgaaa
set_option linter.all false
set_option maxHeartbeats 16000000
set_option maxRecDepth 100000
section
open Go.Maps Go.RowKit
def u0:LK:=newS 2 2 0 1
def u1:LK:=accS u0 0 1
def u2:LK:=setS u1 0 true
def u3:LK:=accS u2 0 1
def u4:LK:=accS u3 1 2
def u5:LK:=setS u4 1 true
theorem u5_R0:u5.R 0=some (1,2):=by decide+kernel
theorem u5_R1:u5.R 1=some (0,3):=by decide+kernel
theorem u3_R(x:Nat)(h:¬x=0):u3.R x=none:=by
 have e:∀S:LK,∀p,(accS S 0 p).R x=S.R x:=fun S p=>by
  unfold accS rerS touS comS
  split<;>split<;>first|(exact updK_other _ _ h)|rfl
 show(accS u2 0 1).R x=none
 rw[e]
 show(setS u1 0 true).R x=none
 have e2:(setS u1 0 true).R x=u1.R x:=by
  unfold setS
  split
  .rfl
  .split
   .exact updK_other _ _ h
   .exact updK_other _ _ h
 rw[e2]
 show(accS u0 0 1).R x=none
 rw[e];rfl
theorem u5_R(x:Nat)(h:¬x=0)(h1:¬x=1):u5.R x=none:=by
 have e:(accS u3 1 2).R x=u3.R x:=by
  unfold accS rerS touS comS
  split<;>split<;>first|(exact updK_other _ _ h1)|rfl
 have e2:(setS u4 1 true).R x=u4.R x:=by
  unfold setS
  split
  .rfl
  .split
   .exact updK_other _ _ h1
   .exact updK_other _ _ h1
 show(setS u4 1 true).R x=none
 rw[e2]
 show(accS u3 1 2).R x=none
 rw[e];exact u3_R x h
theorem u5_dom:∀x,(u5.R x).isSome=true->x<u5.n∧oldK u5.Old (u5.fr x).2=none:=by
 intro x hx;by_cases h:x=0
 .subst h;exact⟨by decide+kernel,by decide+kernel⟩
 .by_cases h1:x=1
  .subst h1;exact⟨by decide+kernel,by decide+kernel⟩
  .rw[u5_R x h h1]at hx;cases hx
theorem u5_least{Fb:Nat->Bool}{x:Nat}(ha:Aged u5.R u5.Fa Fb ((u5.T:Int)-u5.near))(hl:LeastC u5.R Fb x):x=1:=by
 have hu:((u5.T:Int)-u5.near)=3:=by decide+kernel
 rw[hu]at ha;have f0:Fb 0=true:=(ha 0 1 2 u5_R0).2 (.inr (by omega));have f1:Fb 1=true:=(ha 1 0 3 u5_R1).2 (.inr (by omega));have k1:farK u5.R Fb 1=some (0,3):=by unfold farK;rw[if_pos f1,u5_R1]
 rcases hl with⟨a,b,h1,h2⟩|⟨h1,_⟩
 .have h3:=h2 1 0 3 k1
  unfold farK at h1;by_cases h:x=0
  .subst h
   rw[if_pos f0,u5_R0]at h1
   injection h1 with h1
   injection h1 with h4 h5
   omega
  .by_cases e:x=1
   .exact e
   .rw[u5_R x h e]at h1
    split at h1<;>cases h1
 .rw[h1 1]at k1;cases k1
theorem u6_old(Fb:Nat->Bool):(vicS u5 1 Fb).Old.map (·.1)=[2]:=by
 have e:u5.Old=[]:=by decide+kernel
 have e2:(u5.fr 1).2=2:=by decide+kernel
 have e3:u5.kept=1:=by decide+kernel
 unfold vicS remS;simp[e,e2,e3]
theorem u6_t(Fb:Nat->Bool):(vicS u5 1 Fb).t=1:=by
 have e:u5.t=2:=by decide+kernel
 unfold vicS remS
 split<;>(show u5.t-1=1;rw[e])
theorem u6_gone(Fb:Nat->Bool):(vicS u5 1 Fb).gone<800000:=by
 have e:u5.gone=0:=by decide+kernel
 unfold vicS remS
 split<;>(show u5.gone+1<800000;rw[e];omega)
theorem toldK_calls(w:World):Calls Try.prog 6 #[] w fun e w'=>e=.returned (.bool true)∧Fr NoF w w':=by
 have HN:Hid (Calls Try.prog 5 #[.int .i64 2,.int .i64 2,.int .i64 0,.int .i64 1] w fun e w'=>∃lb F,e=.returned (.tuple #[.pointer (some ⟨lb,0,none⟩),.int .i64 0])∧CRL w' lb u0 F∧(∀i,F i->w.heap.size<=i)∧Fr NoF w w'):=crl_new 2 2 0 1 w (by omega) (by omega) (by omega) (by omega);go_enter Try.func6,Try.ntmps6
 go_wp2_with fail
 refine HN.out.mono ?_;rintro e w1⟨lb,F,rfl,hc,g,f⟩;have HT:Hid (TL w w1 lb u0):=⟨F,hc,g,f⟩;clear hc g f HN
 go_wp2_with fail
 go_loopw [3] (fun i wr=>(i=.int .i64 0∧TL w wr lb u0)∨(i=.int .i64 1∧TL w wr lb u3)∨(i=.int .i64 2∧TL w wr lb u5)) (fun i _=>3-(intOf i).toNat)
 case atStart=>exact .inl ⟨rfl,HT.out⟩
 case round=>
  rcases hrel with⟨rfl,hT⟩|⟨rfl,hT⟩|⟨rfl,hT⟩
  .have HT0:=Lib.hid hT
   have H1:Hid (Calls Try.prog 15 #[.pointer (some ⟨lb,0,none⟩),.int .i64 0,.int .u32 1] wr fun e w'=>e=.returned (.tuple #[])∧TL w w' lb u1):=hT.access (at':=0) (page:=1) (by decide+kernel) (by unfold okN;omega) (by decide+kernel);clear hT
   go_wp2_with fail
   refine(lmiss_calls _ _ _).mono ?_;rintro e w2⟨rfl,rfl⟩
   go_wp2_with fail
   refine H1.out.mono ?_;rintro e w2⟨rfl,h1⟩;have H2:Hid (Calls Try.prog 16 #[.pointer (some ⟨lb,0,none⟩),.int .i64 0,.bool true] w2 fun e w'=>e=.returned (.tuple #[])∧TL w w' lb u2):=h1.set (at':=0) (by decide+kernel) (by decide+kernel) (by decide+kernel) true;clear h1 H1
   go_wp2_with fail
   refine H2.out.mono ?_;rintro e w3⟨rfl,h2⟩;have H3:Hid (Calls Try.prog 15 #[.pointer (some ⟨lb,0,none⟩),.int .i64 0,.int .u32 1] w3 fun e w'=>e=.returned (.tuple #[])∧TL w w' lb u3):=h2.access (at':=0) (page:=1) (by decide+kernel) (by unfold okN;omega) (by decide+kernel);clear h2 H2
   go_wp2_with fail
   refine H3.out.mono ?_;rintro e w4⟨rfl,h3⟩;have HT3:=Lib.hid h3;clear h3 H3;go_wp2
   go_roundw
   case rel=>exact .inr (.inl ⟨rfl,HT3.out⟩)
   case measure=>simp[intOf]
  .have HT0:=Lib.hid hT
   have H1:Hid (Calls Try.prog 15 #[.pointer (some ⟨lb,0,none⟩),.int .i64 1,.int .u32 2] wr fun e w'=>e=.returned (.tuple #[])∧TL w w' lb u4):=hT.access (at':=1) (page:=2) (by decide+kernel) (by unfold okN;omega) (by decide+kernel);clear hT
   go_wp2_with fail
   refine(lmiss_calls _ _ _).mono ?_;rintro e w2⟨rfl,rfl⟩
   go_wp2_with fail
   refine H1.out.mono ?_;rintro e w2⟨rfl,h1⟩;have H2:Hid (Calls Try.prog 16 #[.pointer (some ⟨lb,0,none⟩),.int .i64 1,.bool true] w2 fun e w'=>e=.returned (.tuple #[])∧TL w w' lb u5):=h1.set (at':=1) (by decide+kernel) (by decide+kernel) (by decide+kernel) true;clear h1 H1
   go_wp2_with fail
   refine H2.out.mono ?_;rintro e w3⟨rfl,h2⟩;have HT3:=Lib.hid h2;clear h2 H2;go_wp2
   go_roundw
   case rel=>exact .inr (.inr ⟨rfl,HT3.out⟩)
   case measure=>simp[intOf]
  .have H1:Hid (Calls Try.prog 17 #[.pointer (some ⟨lb,0,none⟩),.int .u32 3] wr fun e w'=>∃Fb,e=.returned (.tuple #[.int .i64 1,.bool true])∧TL w w' lb (vicS u5 1 Fb)):=(hT.victim (by decide+kernel) 3 (by decide+kernel) (by decide+kernel) u5_dom).mono fun e w' ⟨x,he,Fb,ha,hl,h'⟩=>by
    obtain rfl:=u5_least ha hl;exact⟨Fb,he,h'⟩
   clear hT
   go_wp2_with fail
   refine(lmiss_calls _ _ _).mono ?_;rintro e w2⟨rfl,rfl⟩
   go_wp2_with fail
   refine H1.out.mono ?_;rintro e w2⟨Fb,rfl,h1⟩;have HGH:=Lib.hid (h1.ghosts (u6_gone Fb));have HT1:=Lib.hid h1;clear h1 H1
   go_wp2_with fail
   refine HGH.out.mono ?_;rintro e w3⟨v,rfl,hs,hob,hf⟩;rw[u6_old]at hs;obtain⟨va,vc,rfl,c1,c2⟩:=SlK.shape hs;have ht2:=HT1.out.fr0 hf;have HSZ:=Lib.hid ht2.size;rw[u6_t]at HSZ;obtain⟨F,_,_,hfr⟩:=ht2;have HFR:=Lib.hid hfr;have HSS:=Lib.hid hs;clear hs hob hf hfr HGH HT1 HT
   go_wp2_with fail
   refine HSZ.out.mono ?_;rintro e w4⟨rfl,f4⟩;obtain⟨b,off,c,ev,hcn,hcm,hbl,hc⟩:=SlC.at (HSS.out.keep f4) (k:=0) (by simp) (by omega);simp only[Value.slice.injEq,List.length_cons,List.length_nil,true_and]at ev;obtain⟨rfl,rfl⟩:=ev;have y0:w4.cell? ⟨b,off,none⟩=some (.int .u32 2):=hc 0 (.int .u32 2) rfl;have HF4:=Lib.hid (HFR.out.trans f4 (fun _ q=>q.elim));clear f4 hc;go_wp2;go_returns;exact⟨rfl,HF4.out⟩
end
end Go.Proofs.Ytcccbdnojlmgaaa
