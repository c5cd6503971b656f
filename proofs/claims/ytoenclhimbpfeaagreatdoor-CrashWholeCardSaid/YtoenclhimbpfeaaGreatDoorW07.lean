/- Part 7. -/
import Derived.Test.YtoenclhimbpfeaaGreatDoorW06
import Derived.Test.YtoenclhimbpfeaaGreatDoorW05
import Derived.Deep.RegionLaw
namespace Go.Proofs.YtoenclhimbpfeaaGreatDoor
set_option linter.all false
set_option maxHeartbeats 16000000
set_option maxRecDepth 100000
section
open Go.Proofs.Tryz Go.RowKit
abbrev wZ(f:FuncId):Prop:=∀(args:Array Value) (w:World),(callFunc f args).run prog w=.ok (.enter f args) w
theorem cu{f:FuncId}{fn:Func}{c:Code}(hf:prog.funcs[f]?=some fn)(hname:(fn.name== "runtime.NumGoroutine")=false)(hb:fn.body=some c):wZ f:=λargs w=>by
 have h1:fn.name≠ "runtime.NumGoroutine" :=by simpa using hname
 simp[callFunc,hf,h1,hb]
structure iO(hty:TypeId)(gLn gLs gSw gPu gPo:FuncId){α:Type}(lt:α->α->Bool)(HR:World->(Nat->α)->Nat->(Nat->Prop)->Prop)(p:Addr)(enc:α->Value)(okP:(Nat->α)->Nat->α->Prop):Prop where
 own:wZ gLn/\wZ gLs/\wZ gSw/\wZ gPu/\wZ gPo
 fr:∀{w w':World} {a:Nat->α} {n:Nat} {F G:Nat->Prop},HR w a n F->Fr G w w'->(∀i,F i->¬G i)->HR w' a n F
 bd:∀{w:World} {a:Nat->α} {n:Nat} {F:Nat->Prop},HR w a n F->∀i,F i->i<w.heap.size
 small:∀{w:World} {a:Nat->α} {n:Nat} {F:Nat->Prop},HR w a n F->n<1000000
 len:∀{w:World} {a:Nat->α} {n:Nat} {F:Nat->Prop},HR w a n F->∃rv,(method 390 hty (.pointer (some p)) "Len").run prog w=.ok (gLn,rv) w/\Calls prog gLn #[rv] w λe w'=>e=.returned (.int .i64 (n:Nat))/\Fr NoF w w'
 less:∀{w:World} {a:Nat->α} {n:Nat} {F:Nat->Prop} {i j:Nat},HR w a n F->i<n->j<n->∃rv,(method 390 hty (.pointer (some p)) "Less").run prog w=.ok (gLs,rv) w/\Calls prog gLs #[rv,.int .i64 i,.int .i64 j] w λe w'=>e=.returned (.bool (lt (a i) (a j)))/\Fr NoF w w'
 swap:∀{w:World} {a:Nat->α} {n:Nat} {F:Nat->Prop} {i j:Nat},HR w a n F->i<n->j<n->∃rv,(method 390 hty (.pointer (some p)) "Swap").run prog w=.ok (gSw,rv) w/\Calls prog gSw #[rv,.int .i64 i,.int .i64 j] w λe w'=>e=.returned (.tuple #[])/\HR w' (swp a i j) n F/\Fr F w w'
 push:∀{w:World} {a:Nat->α} {n:Nat} {F:Nat->Prop} {t:α},HR w a n F->okP a n t->∃rv,(method 390 hty (.pointer (some p)) "Push").run prog w=.ok (gPu,rv) w/\Calls prog gPu #[rv,enc t] w λe w'=>e=.returned (.tuple #[])/\∃F',HR w' (upd a n t) (n+1) F'/\Fr F w w'/\∀i,F' i->F i\/w.heap.size<=i
 pop:∀{w:World} {a:Nat->α} {n:Nat} {F:Nat->Prop},HR w a (n+1) F->∃rv,(method 390 hty (.pointer (some p)) "Pop").run prog w=.ok (gPo,rv) w/\Calls prog gPo #[rv] w λe w'=>e=.returned (enc (a n))/\HR w' a n F/\Fr F w w'
section
variable{hty:TypeId}{gLn gLs gSw gPu gPo:FuncId}{α:Type}{lt:α->α->Bool}{HR:World->(Nat->α)->Nat->(Nat->Prop)->Prop}{p:Addr}{enc:α->Value}{okP:(Nat->α)->Nat->α->Prop}(S:iO hty gLn gLs gSw gPu gPo lt HR p enc okP){w:World}{a:Nat->α}{n:Nat}{F:Nat->Prop}
include S
theorem vi(h:HR w a n F){j:Nat}(hj:j<n):Calls prog 109 #[.iface hty (.pointer (some p)),.int .i64 j] w λe w'=>e=.returned (.tuple #[])/\HR w' (upF lt a j) n F/\Fr F w w':=by
 have hn:=S.small h;have HS:=Hd S;obtain⟨oL,oI,oS,oP,oQ⟩:=S.own;have HH:=Hd h;clear h S;go_enter func109,ntmps109;go_wp2
 go_loopg [1] j (λg v wr=>∃a':Nat->α,g<n/\v=.int .i64 g/\HR wr a' n F/\upF lt a' g=upF lt a j/\Fr F w wr)
 case atStart=>exact⟨a,hj,rfl,HH.out,rfl,Fr.refl _ _⟩
 case round=>
  obtain⟨a',hk,rfl,hr,he,hf⟩:=hrel;have HR1:=Hd hr;have HE:=Hd he;have HF:=Hd hf;clear hr he hf HH;by_cases h0:gk=0
  .have HU:Hid (upF lt a' gk=a'):=by unfold Hid;rw[upF,dif_pos h0]
   subst h0;go_wp2;go_returns;refine⟨rfl,?_,HF.out⟩;rw[<-HE.out,HU.out];exact HR1.out
  .have hp:((gk:Int)-1)/2=(par gk:Nat):=by unfold par;omega
   have hpk:par gk<gk:=by unfold par;omega
   have h1:1<=(gk:Int):=by omega
   have hne2:(((par gk:Nat):Int)==(gk:Int))=false:=by simp;omega
   have HUP:Hid (upF lt a' gk=if lt (a' gk) (a' (par gk))then upF lt (swp a' (par gk) gk) (par gk)else a'):=by
    unfold Hid;rw[upF,dif_neg h0]
   obtain⟨rv,hm,HC⟩:=HS.out.less (i:=gk) (j:=par gk) HR1.out hk (by omega);have HCL:=Hd HC
   have HSW:Hid (∀w',Fr NoF wr w'->∃rv,(method 390 hty (.pointer (some p)) "Swap").run prog w'=.ok (gSw,rv) w'/\Calls prog gSw #[rv,.int .i64 (par gk:Nat),.int .i64 gk] w' λe w''=>e=.returned (.tuple #[])/\HR w'' (swp a' (par gk) gk) n F/\Fr F w' w''):=by
    intro w' f;exact HS.out.swap (HS.out.fr HR1.out f (λ_ _ q=>q)) (by omega) hk
   generalize hq:par gk=q at*;have HQ:=Hd hq;clear hq HC h0
   cases hl:lt (a' gk) (a' q)with
   |false=>
    rw[hl]at HCL HUP;clear hl
    go_wp2_with fail
    refine HCL.out.mono ?_;clear HCL hm;rintro e w2⟨rfl,hf2⟩;have HF2:=Hd hf2;clear hf2;go_wp2;go_returns;refine⟨rfl,?_,HF.out.trans HF2.out (λ_ q=>q.elim)⟩;rw[<-HE.out,HUP.out];exact HS.out.fr HR1.out HF2.out (λ_ _ q=>q)
   |true=>
    rw[hl]at HCL HUP;clear hl
    go_wp2_with fail
    refine HCL.out.mono ?_;clear HCL hm;rintro e w2⟨rfl,hf2⟩;obtain⟨rv2,hm2,HC2⟩:=HSW.out w2 hf2;have HCS:=Hd HC2;have HF2:=Hd (HF.out.trans hf2 (λ_ q=>q.elim));clear hf2 HC2
    go_wp2_with fail
    refine HCS.out.mono ?_;clear HCS hm2;rintro e w3⟨rfl,hr3,hf3⟩;have HR3:=Hd (And.intro hr3 (HF2.out.trans hf3 (λi q=>.inl q)));clear hr3 hf3;go_wp2
    go_roundg q
    case measure=>omega
    case rel=>exact⟨swp a' q gk,by omega,rfl,HR3.out.1,by rw[<-HE.out,HUP.out];simp,HR3.out.2⟩
theorem mX{m:Nat}(h:HR w a m F)(hnm:n<=m){i:Nat}(hi:i<n):Calls prog 105 #[.iface hty (.pointer (some p)),.int .i64 i,.int .i64 n] w λe w'=>e=.returned (.bool (decide (i<(aD lt n a i).2)))/\HR w' (aD lt n a i).1 m F/\Fr F w w':=by
 have hm0:=S.small h;have HS:=Hd S;obtain⟨oL,oI,oS,oP,oQ⟩:=S.own;have HH:=Hd h;clear h S;go_enter func105,ntmps105;go_wp2
 go_loopg [7] (n-i) (λg v wr=>∃(k:Nat) (a':Nat->α),k<n/\g=n-k/\v=.int .i64 k/\HR wr a' m F/\aD lt n a' k=aD lt n a i/\Fr F w wr)
 case atStart=>exact⟨i,a,hi,rfl,rfl,HH.out,rfl,Fr.refl _ _⟩
 case round=>
  obtain⟨k,a',hk,rfl,rfl,hr,he,hf⟩:=hrel;have HR1:=Hd hr;have HE:=Hd he;have HF:=Hd hf;clear hr he hf HH;by_cases h0:n<=2*k+1
  .have HU:Hid (aD lt n a' k=(a',k)):=by unfold Hid;rw[aD,dif_pos h0]
   go_wp2;go_returns;have hE:=HE.out;rw[HU.out]at hE;rw[<-hE];exact⟨by first|rfl|simp,HR1.out,HF.out⟩
  .have HDN0:Hid (aD lt n a' k=if lt (a' (aR lt a' n (2*k+1))) (a' k)then aD lt n (swp a' k (aR lt a' n (2*k+1))) (aR lt a' n (2*k+1))else(a',k)):=by
    unfold Hid;rw[aD,dif_neg h0]
   have HLS:Hid (∀(j:Nat) (w':World),Fr NoF wr w'->j<n->k<n->∃rv,(method 390 hty (.pointer (some p)) "Less").run prog w'=.ok (gLs,rv) w'/\Calls prog gLs #[rv,.int .i64 j,.int .i64 k] w' λe w''=>e=.returned (.bool (lt (a' j) (a' k)))/\Fr NoF w' w''):=by
    intro j w' f h1 h2;exact HS.out.less (HS.out.fr HR1.out f (λ_ _ q=>q)) (by omega) (by omega)
   have HSW:Hid (∀(j:Nat) (w':World),Fr NoF wr w'->j<n->¬k=j->∃rv,(method 390 hty (.pointer (some p)) "Swap").run prog w'=.ok (gSw,rv) w'/\Calls prog gSw #[rv,.int .i64 k,.int .i64 j] w' λe w''=>e=.returned (.tuple #[])/\HR w'' (swp a' k j) m F/\Fr F w' w''):=by
    intro j w' f h1 h2;exact HS.out.swap (HS.out.fr HR1.out f (λ_ _ q=>q)) (by omega) (by omega)
   have j1:2*k+1<n:=by omega
   by_cases h2:2*k+1+1<n
   .obtain⟨rv,hm,HC⟩:=HS.out.less (i:=2*k+1+1) (j:=2*k+1) HR1.out (by omega) (by omega)
    have HCL:=Hd HC;clear HC
    cases hb:lt (a' (2*k+1+1)) (a' (2*k+1))with
    |true=>
     rw[hb]at HCL
     have HDN:Hid (aD lt n a' k=if lt (a' (2*k+1+1)) (a' k)then aD lt n (swp a' k (2*k+1+1)) (2*k+1+1)else(a',k)):=by
      have:aR lt a' n (2*k+1)=2*k+1+1:=by unfold aR;rw[if_pos ⟨h2,hb⟩]
      have:=this▸HDN0.out;exact this
     clear hb HDN0
     go_wp2_with fail
     refine HCL.out.mono ?_;clear HCL hm;rintro e w2⟨rfl,hf2⟩;have HF2:=Hd hf2;clear hf2;obtain⟨rv1,hm1,HC1⟩:=HLS.out (2*k+1+1) w2 HF2.out h2 (by omega);have HCL1:=Hd HC1;clear HC1
     cases hl:lt (a' (2*k+1+1)) (a' k)with
     |false=>
      rw[hl]at HCL1 HDN;clear hl
      go_wp2_with fail
      refine HCL1.out.mono ?_;clear HCL1 hm1;rintro e w3⟨rfl,hf3⟩;have HF3:=Hd (HF2.out.trans hf3 (λ_ q=>q.elim));clear hf3;go_wp2;go_returns;have hE:=HE.out;rw[HDN.out]at hE;simp only[Bool.false_eq_true,if_false]at hE;refine⟨?_,?_,HF.out.trans HF3.out (λ_ q=>q.elim)⟩
      .rw[<-hE];first|rfl|simp
      .rw[<-hE];exact HS.out.fr HR1.out HF3.out (λ_ _ q=>q)
     |true=>
      rw[hl]at HCL1 HDN;clear hl
      go_wp2_with fail
      refine HCL1.out.mono ?_;clear HCL1 hm1;rintro e w3⟨rfl,hf3⟩;obtain⟨rv2,hm2,HC2⟩:=HSW.out (2*k+1+1) w3 (HF2.out.trans hf3 (λ_ q=>q.elim)) h2 (by omega);have HCS:=Hd HC2;have HF3:=Hd (HF.out.trans (HF2.out.trans hf3 (λ_ q=>q.elim)) (λ_ q=>q.elim));clear hf3 HC2
      go_wp2_with fail
      refine HCS.out.mono ?_;clear HCS hm2;rintro e w4⟨rfl,hr4,hf4⟩;have HR4:=Hd (And.intro hr4 (HF3.out.trans hf4 (λi q=>.inl q)));clear hr4 hf4;go_wp2
      go_roundg (n-((2*k+1+1)))
      case measure=>omega
      case rel=>exact⟨(2*k+1+1),swp a' k ((2*k+1+1)),h2,rfl,by first|rfl|go_num|(simp;done)|(congr 1;push_cast;omega),HR4.out.1,by rw[<-HE.out,HDN.out];simp,HR4.out.2⟩
    |false=>
     rw[hb]at HCL
     have HDN:Hid (aD lt n a' k=if lt (a' (2*k+1)) (a' k)then aD lt n (swp a' k (2*k+1)) (2*k+1)else(a',k)):=by
      have:aR lt a' n (2*k+1)=2*k+1:=by unfold aR;rw[if_neg (λq=>by rw[hb]at q;cases q.2)]
      have:=this▸HDN0.out;exact this
     clear hb HDN0
     go_wp2_with fail
     refine HCL.out.mono ?_;clear HCL hm;rintro e w2⟨rfl,hf2⟩;have HF2:=Hd hf2;clear hf2;obtain⟨rv1,hm1,HC1⟩:=HLS.out (2*k+1) w2 HF2.out j1 (by omega);have HCL1:=Hd HC1;clear HC1
     cases hl:lt (a' (2*k+1)) (a' k)with
     |false=>
      rw[hl]at HCL1 HDN;clear hl
      go_wp2_with fail
      refine HCL1.out.mono ?_;clear HCL1 hm1;rintro e w3⟨rfl,hf3⟩;have HF3:=Hd (HF2.out.trans hf3 (λ_ q=>q.elim));clear hf3;go_wp2;go_returns;have hE:=HE.out;rw[HDN.out]at hE;simp only[Bool.false_eq_true,if_false]at hE;refine⟨?_,?_,HF.out.trans HF3.out (λ_ q=>q.elim)⟩
      .rw[<-hE];first|rfl|simp
      .rw[<-hE];exact HS.out.fr HR1.out HF3.out (λ_ _ q=>q)
     |true=>
      rw[hl]at HCL1 HDN;clear hl
      go_wp2_with fail
      refine HCL1.out.mono ?_;clear HCL1 hm1;rintro e w3⟨rfl,hf3⟩;obtain⟨rv2,hm2,HC2⟩:=HSW.out (2*k+1) w3 (HF2.out.trans hf3 (λ_ q=>q.elim)) j1 (by omega);have HCS:=Hd HC2;have HF3:=Hd (HF.out.trans (HF2.out.trans hf3 (λ_ q=>q.elim)) (λ_ q=>q.elim));clear hf3 HC2
      go_wp2_with fail
      refine HCS.out.mono ?_;clear HCS hm2;rintro e w4⟨rfl,hr4,hf4⟩;have HR4:=Hd (And.intro hr4 (HF3.out.trans hf4 (λi q=>.inl q)));clear hr4 hf4;go_wp2
      go_roundg (n-((2*k+1)))
      case measure=>omega
      case rel=>exact⟨(2*k+1),swp a' k ((2*k+1)),j1,rfl,by first|rfl|go_num|(simp;done)|(congr 1;push_cast;omega),HR4.out.1,by rw[<-HE.out,HDN.out];simp,HR4.out.2⟩
   .have HDN:Hid (aD lt n a' k=if lt (a' (2*k+1)) (a' k)then aD lt n (swp a' k (2*k+1)) (2*k+1)else(a',k)):=by
     have:aR lt a' n (2*k+1)=2*k+1:=by unfold aR;rw[if_neg (λq=>h2 q.1)]
     have:=this▸HDN0.out;exact this
    clear HDN0;obtain⟨rv1,hm1,HC1⟩:=HLS.out (2*k+1) wr (Fr.refl NoF wr) j1 (by omega);have HCL1:=Hd HC1;clear HC1
    cases hl:lt (a' (2*k+1)) (a' k)with
    |false=>
     rw[hl]at HCL1 HDN;clear hl
     go_wp2_with fail
     refine HCL1.out.mono ?_;clear HCL1 hm1;rintro e w3⟨rfl,hf3⟩;have HF3:=Hd ((Fr.refl NoF wr).trans hf3 (λ_ q=>q.elim));clear hf3;go_wp2;go_returns;have hE:=HE.out;rw[HDN.out]at hE;simp only[Bool.false_eq_true,if_false]at hE;refine⟨?_,?_,HF.out.trans HF3.out (λ_ q=>q.elim)⟩
     .rw[<-hE];first|rfl|simp
     .rw[<-hE];exact HS.out.fr HR1.out HF3.out (λ_ _ q=>q)
    |true=>
     rw[hl]at HCL1 HDN;clear hl
     go_wp2_with fail
     refine HCL1.out.mono ?_;clear HCL1 hm1;rintro e w3⟨rfl,hf3⟩;obtain⟨rv2,hm2,HC2⟩:=HSW.out (2*k+1) w3 ((Fr.refl NoF wr).trans hf3 (λ_ q=>q.elim)) j1 (by omega);have HCS:=Hd HC2;have HF3:=Hd (HF.out.trans ((Fr.refl NoF wr).trans hf3 (λ_ q=>q.elim)) (λ_ q=>q.elim));clear hf3 HC2
     go_wp2_with fail
     refine HCS.out.mono ?_;clear HCS hm2;rintro e w4⟨rfl,hr4,hf4⟩;have HR4:=Hd (And.intro hr4 (HF3.out.trans hf4 (λi q=>.inl q)));clear hr4 hf4;go_wp2
     go_roundg (n-((2*k+1)))
     case measure=>omega
     case rel=>exact⟨(2*k+1),swp a' k ((2*k+1)),j1,rfl,by first|rfl|go_num|(simp;done)|(congr 1;push_cast;omega),HR4.out.1,by rw[<-HE.out,HDN.out];simp,HR4.out.2⟩
end
def eX{α:Type}(lt:α->α->Bool)(a:Nat->α)(n:Nat):Nat->α:=if n=0 then a else(aD lt n (swp a 0 n) 0).1
def gX{α:Type}(lt:α->α->Bool)(a:Nat->α)(n i:Nat):Nat->α:=if i<(aD lt n a i).2 then(aD lt n a i).1 else upF lt (aD lt n a i).1 i
def iq{α:Type}(lt:α->α->Bool)(a:Nat->α)(n i:Nat):Nat->α:=if n=i then a else gX lt (swp a i n) n i
theorem xG{hty:TypeId}(p:Addr)(w:World)(i:Nat)(hi:i<1000000):Calls prog 105 #[.iface hty (.pointer (some p)),.int .i64 i,.int .i64 (0:Nat)] w λe w'=>e=.returned (.bool false)/\w=w':=by
 go_enter func105,ntmps105;go_wp2
 go_loopg [7] 1 (λg v wr=>g=1/\v=.int .i64 i/\w=wr)
 case atStart=>exact⟨rfl,rfl,rfl⟩
 case round=>
  obtain⟨rfl,rfl,rfl⟩:=hrel;go_wp2;go_returns;exact⟨by simp,rfl⟩
section
variable{hty:TypeId}{gLn gLs gSw gPu gPo:FuncId}{α:Type}{lt:α->α->Bool}{HR:World->(Nat->α)->Nat->(Nat->Prop)->Prop}{p:Addr}{enc:α->Value}{okP:(Nat->α)->Nat->α->Prop}(S:iO hty gLn gLs gSw gPu gPo lt HR p enc okP){w:World}{a:Nat->α}{n:Nat}{F:Nat->Prop}
include S
theorem nH(h:HR w a n F){t:α}(ht:okP a n t):Calls prog 87 #[.iface hty (.pointer (some p)),enc t] w λe w'=>e=.returned (.tuple #[])/\∃F',HR w' (upF lt (upd a n t) n) (n+1) F'/\Fr F w w'/\∀i,F' i->F i\/w.heap.size<=i:=by
 obtain⟨rv,hm,HC⟩:=S.push h ht;have HCL:=Hd HC;have HS:=Hd S;obtain⟨oL,oI,oS,oP,oQ⟩:=S.own;have hn:=S.small h;clear HC S h ht;generalize enc t=et at*;go_enter func87,ntmps87
 go_wp2_with fail
 refine HCL.out.mono ?_;clear HCL hm;rintro e w1⟨rfl,F1,hr1,hf1,hF1⟩;obtain⟨rv2,hm2,HC2⟩:=HS.out.len hr1;have HCL2:=Hd HC2;have HR1:=Hd (And.intro hr1 (And.intro hf1 hF1));clear HC2 hr1 hf1 hF1
 go_wp2_with fail
 refine HCL2.out.mono ?_;clear HCL2 hm2;rintro e w2⟨rfl,hf2⟩;have HU:=Hd (vi HS.out (HS.out.fr HR1.out.1 hf2 (λ_ _ q=>q)) (j:=n) (by omega));have HF2:=Hd hf2;clear hf2;have e1:((n+1:Nat):Int)-1=(n:Int):=by omega
 go_wp2_with fail
 refine HU.out.mono ?_;clear HU;rintro e w3⟨rfl,hr3,hf3⟩;have HR3:=Hd (And.intro hr3 hf3);clear hr3 hf3;go_wp2;go_returns;refine⟨rfl,F1,HR3.out.1,(HR1.out.2.1.trans HF2.out (λ_ q=>q.elim)).trans HR3.out.2 (λi q=>HR1.out.2.2 i q),HR1.out.2.2⟩
theorem zL(h:HR w a (n+1) F):Calls prog 80 #[.iface hty (.pointer (some p))] w λe w'=>e=.returned (enc (a 0))/\HR w' (eX lt a n) n F/\Fr F w w':=by
 have hn:=S.small h;obtain⟨rv,hm,HC⟩:=S.len h;have HCL:=Hd HC;have HS:=Hd S;obtain⟨oL,oI,oS,oP,oQ⟩:=S.own;have HH:=Hd h;have e1:((n+1:Nat):Int)-1=(n:Int):=by omega
 clear HC S h;go_enter func80,ntmps80
 go_wp2_with fail
 refine HCL.out.mono ?_;clear HCL hm;rintro e w1⟨rfl,hf1⟩;obtain⟨rv2,hm2,HC2⟩:=HS.out.swap (HS.out.fr HH.out hf1 (λ_ _ q=>q)) (i:=0) (j:=n) (by omega) (by omega);have HCL2:Hid (Calls prog gSw #[rv2,.int .i64 0,.int .i64 n] w1 λe w''=>e=.returned (.tuple #[])/\HR w'' (swp a 0 n) (n+1) F/\Fr F w1 w''):=HC2;have HF1:=Hd hf1;clear HC2 hf1
 go_wp2_with fail
 refine HCL2.out.mono ?_;clear HCL2 hm2;rintro e w2⟨rfl,hr2,hf2⟩
 have HD:Hid (∃q:Bool,Calls prog 105 #[.iface hty (.pointer (some p)),.int .i64 0,.int .i64 n] w2 λe w'=>e=.returned (.bool q)/\HR w' (eX lt a n) (n+1) F/\Fr F w2 w'):=by
  unfold Hid eX;by_cases h0:n=0
  .subst h0
   rw[if_pos rfl];have hsw:swp a 0 0=a:=by funext k;unfold swp;by_cases e:k=0<;>simp[e]
   rw[hsw]at hr2;exact⟨_,(xG p w2 0 (by omega)).mono λe w' ⟨he,hw⟩=>⟨he,hw▸hr2,hw▸Fr.refl _ _⟩⟩
  .rw[if_neg h0]
   exact⟨_,(mX HS.out hr2 (n:=n) (by omega) (i:=0) (by omega)).mono λe w' ⟨he,h1,h2⟩=>⟨he,h1,h2⟩⟩
 have HF2:=Hd ((HF1.out.mono (λ_ q=>q.elim)).trans hf2 (λi q=>.inl q));clear hr2 hf2;obtain⟨q,hd⟩:=HD.out;have HD2:=Hd hd;clear hd HD
 go_wp2_with fail
 refine HD2.out.mono ?_;clear HD2;rintro e w3⟨rfl,hr3,hf3⟩;obtain⟨rv4,hm4,HC4⟩:=HS.out.pop hr3
 have HE:Hid (eX lt a n n=a 0):=by
  unfold Hid eX
  split
  .rename_i q;rw[q]
  .rw[kM lt n (swp a 0 n) 0 (by omega) (by omega) n (Nat.le_refl _)]
   unfold swp;split
   .rename_i q;rw[q]
   .rw[if_pos rfl]
 have HCL4:=Hd HC4;have HF3:=Hd (HF2.out.trans hf3 (λi q=>.inl q));clear HC4 hr3 hf3
 go_wp2_with fail
 refine HCL4.out.mono ?_;clear HCL4 hm4;rintro e w4⟨rfl,hr4,hf4⟩;have HR4:=Hd (And.intro hr4 (HF3.out.trans hf4 (λi q=>.inl q)));clear hr4 hf4;rw[HE.out];generalize hET:enc (a 0)=et;have HET:=Hd hET;clear hET;go_wp2;go_returns;exact⟨by rw[HET.out];rfl,HR4.out⟩
end
section
variable{hty:TypeId}{gLn gLs gSw gPu gPo:FuncId}{α:Type}{lt:α->α->Bool}{a:Nat->α}{n:Nat}
theorem pP(O:Ord lt){i:Nat}(hi:i<n)(h:eE lt a n i):bt lt (gX lt a n i) n:=by
 have hd:=h.down O n a i (by omega) hi;have hg:=uC lt n a i (by omega) hi;unfold gX;by_cases q:i<(aD lt n a i).2
 .rw[if_pos q];exact hd.2.1 (by omega)
 .rw[if_neg q,hg.2.1 (by omega)]
  exact dB.up O a i hi (hd.1 (by omega))
theorem uM{i:Nat}(hi:i<n)(t:α):(∃k,k<n/\gX lt a n i k=t)↔∃k,k<n/\a k=t:=by
 unfold gX
 split
 .exact ly lt t n a i (by omega) hi
 .rw[tf lt t _ _ hi];exact ly lt t n a i (by omega) hi
theorem Df{i:Nat}(hi:i<n):∀k,n<=k->gX lt a n i k=a k:=by
 intro k hk;unfold gX
 split
 .exact kM lt n a i (by omega) hi k hk
 .rw[E6 lt _ _ hi k hk];exact kM lt n a i (by omega) hi k hk
theorem C8(O:Ord lt)(h:bt lt a n)(i:Nat)(t:α):eE lt (upd a i t) n i:=by
 refine⟨λk k1 k2 k3 k4=>?_,λk k1 k2 k3 k4=>?_⟩
 .rw[aa _ _ k3,aa _ _ k4];exact h k k1 k2
 .have hk:¬k=i:=by unfold par at k3;omega
  have hp:¬par i=i:=by unfold par;omega
  rw[aa _ _ hk,aa _ _ hp];have h1:=h k k1 k2;rw[k3]at h1;exact O.tr _ _ _ (h i k4 (by unfold par at k3;omega)) h1
theorem Dc(O:Ord lt)(h:bt lt a (n+1)){i:Nat}(hi:i<n):eE lt (swp a i n) n i:=by
 refine⟨λk k1 k2 k3 k4=>?_,λk k1 k2 k3 k4=>?_⟩
 .have e1:swp a i n k=a k:=by unfold swp;rw[if_neg k3,if_neg (by omega)]
  have e2:swp a i n (par k)=a (par k):=by unfold swp;rw[if_neg k4,if_neg (by unfold par;omega)]
  rw[e1,e2];exact h k k1 (by omega)
 .have hk:¬k=i:=by unfold par at k3;omega
  have e1:swp a i n k=a k:=by unfold swp;rw[if_neg hk,if_neg (by omega)]
  have e2:swp a i n (par i)=a (par i):=by unfold swp;rw[if_neg (by unfold par;omega),if_neg (by unfold par;omega)]
  rw[e1,e2];have h1:=h k k1 (by omega);rw[k3]at h1;exact O.tr _ _ _ (h i k4 (by omega)) h1
theorem zI(O:Ord lt){i:Nat}(hi:i<=n)(h:bt lt a (n+1)):bt lt (iq lt a n i) n:=by
 unfold iq;by_cases q:n=i
 .rw[if_pos q];exact λk k1 k2=>h k k1 (by omega)
 .rw[if_neg q];exact pP O (by omega) (Dc O h (by omega))
theorem Ay{i:Nat}(hi:i<=n):iq lt a n i n=a i:=by
 unfold iq;by_cases q:n=i
 .rw[if_pos q,q]
 .rw[if_neg q,Df (by omega) n (Nat.le_refl _)]
  unfold swp;rw[if_neg q,if_pos rfl]
theorem Gk{β:Type}{f:α->β}{i:Nat}(hi:i<=n)(h:gN f a (n+1)):gN f (swp a i n) (n+1):=eJ (by omega) (by omega) h
theorem CQ{β:Type}{f:α->β}{i:Nat}(hi:i<=n)(h:gN f a (n+1))(t:α):(∃k,k<n/\iq lt a n i k=t)↔(∃k,k<n+1/\a k=t)/\¬f t=f (a i):=by
 have key:(∃k,k<n/\swp a i n k=t)↔(∃k,k<n+1/\a k=t)/\¬f t=f (a i):=by
  constructor
  .rintro⟨k,hk,rfl⟩
   by_cases e:k=i
   .have e1:swp a i n k=a n:=by unfold swp;rw[if_pos e]
    rw[e1];exact⟨⟨n,by omega,rfl⟩,λq=>by have:=h n i (by omega) (by omega) q;omega⟩
   .have e1:swp a i n k=a k:=by unfold swp;rw[if_neg e,if_neg (by omega)]
    rw[e1];exact⟨⟨k,by omega,rfl⟩,λq=>e (h k i (by omega) (by omega) q)⟩
  .rintro⟨⟨k,hk,rfl⟩,hne⟩
   have e:¬k=i:=λq=>hne (by rw[q])
   by_cases e2:k=n
   .subst e2
    exact⟨i,by omega,by unfold swp;rw[if_pos rfl]⟩
   .exact⟨k,by omega,by unfold swp;rw[if_neg e,if_neg e2]⟩
 unfold iq;by_cases q:n=i
 .rw[if_pos q,<-key]
  subst q;have e1:∀k,k<n->swp a n n k=a k:=λk hk=>by unfold swp;rw[if_neg (by omega),if_neg (by omega)]
  exact⟨λ⟨k,h1,h2⟩=>⟨k,h1,by rw[e1 k h1];exact h2⟩,λ⟨k,h1,h2⟩=>⟨k,h1,by rw[<-e1 k h1];exact h2⟩⟩
 .rw[if_neg q,<-key];exact uM (by omega) t
end
section
variable{hty:TypeId}{gLn gLs gSw gPu gPo:FuncId}{α:Type}{lt:α->α->Bool}{HR:World->(Nat->α)->Nat->(Nat->Prop)->Prop}{p:Addr}{enc:α->Value}{okP:(Nat->α)->Nat->α->Prop}(S:iO hty gLn gLs gSw gPu gPo lt HR p enc okP){w:World}{a:Nat->α}{n:Nat}{F:Nat->Prop}
include S
theorem uS{m:Nat}(h:HR w a m F)(hnm:n<=m){i:Nat}(hi:i<n):∃b:Bool,Hid (Calls prog 105 #[.iface hty (.pointer (some p)),.int .i64 i,.int .i64 n] w λe w'=>e=.returned (.bool b)/\HR w' (aD lt n a i).1 m F/\Fr F w w')/\
  (b=true->gX lt a n i=(aD lt n a i).1)/\Hid (b=false->∀w',HR w' (aD lt n a i).1 m F->Calls prog 109 #[.iface hty (.pointer (some p)),.int .i64 i] w' λe w''=>e=.returned (.tuple #[])/\HR w'' (gX lt a n i) m F/\Fr F w' w''):=by
 refine⟨decide (i<(aD lt n a i).2),mX S h hnm hi,λq=>?_,λq w' hr=>?_⟩
 .unfold gX;rw[if_pos (by simpa using q)]
 .have e:gX lt a n i=upF lt (aD lt n a i).1 i:=by unfold gX;rw[if_neg (by simpa using q)]
  rw[e];exact vi S hr (by omega)
theorem At(h:HR w a n F){i:Nat}(hi:i<n):Calls prog 202 #[.iface hty (.pointer (some p)),.int .i64 i] w λe w'=>e=.returned (.tuple #[])/\HR w' (gX lt a n i) n F/\Fr F w w':=by
 obtain⟨rv,hm,HC⟩:=S.len h;have HCL:=Hd HC;have HS:=Hd S;obtain⟨oL,oI,oS,oP,oQ⟩:=S.own;have HH:=Hd h;clear HC S h;go_enter func202,ntmps202
 go_wp2_with fail
 refine HCL.out.mono ?_;clear HCL hm;rintro e w1⟨rfl,hf1⟩;obtain⟨b,HD,hb1,HU⟩:=uS HS.out (HS.out.fr HH.out hf1 (λ_ _ q=>q)) (Nat.le_refl _) hi;have HB:=Hd hb1;have HF1:Hid (Fr F w w1):=hf1.mono (λ_ q=>q.elim);clear hb1 hf1
 cases b with
 |true=>
  go_wp2_with fail
  refine HD.out.mono ?_;rintro e w2⟨rfl,hr2,hf2⟩;have HR2:Hid (HR w2 (gX lt a n i) n F/\Fr F w w2):=⟨by rw[HB.out (by first|rfl|trivial)];exact hr2,HF1.out.trans hf2 (λ_ q=>.inl q)⟩;clear hr2 hf2 HD HU HB;go_wp2;go_returns;exact⟨rfl,HR2.out⟩
 |false=>
  go_wp2_with fail
  refine HD.out.mono ?_;rintro e w2⟨rfl,hr2,hf2⟩;have HU2:=Hd (HU.out (by first|rfl|trivial) w2 hr2);have HF2:=Hd (HF1.out.trans hf2 (λ_ q=>.inl q));clear hr2 hf2 HD HU HB HF1
  go_wp2_with fail
  refine HU2.out.mono ?_;rintro e w3⟨rfl,hr3,hf3⟩;have HR3:=Hd (And.intro hr3 (HF2.out.trans hf3 (λ_ q=>.inl q)));clear hr3 hf3 HU2;go_wp2;go_returns;exact⟨rfl,HR3.out⟩
theorem qZ(h:HR w a (n+1) F){i:Nat}(hi:i<=n):Calls prog 196 #[.iface hty (.pointer (some p)),.int .i64 i] w λe w'=>e=.returned (enc (a i))/\HR w' (iq lt a n i) n F/\Fr F w w':=by
 obtain⟨rv,hm,HC⟩:=S.len h;have hn:=S.small h;have HCL:=Hd HC;have HS:=Hd S;obtain⟨oL,oI,oS,oP,oQ⟩:=S.own;have HH:=Hd h;have HL:Hid (iq lt a n i n=a i):=Ay hi;have e1:((n+1:Nat):Int)-1=(n:Int):=by omega
 have KP:Hid (∀w1,HR w1 (iq lt a n i) (n+1) F->∃rv,(method 390 hty (.pointer (some p)) "Pop").run prog w1=.ok (gPo,rv) w1/\Calls prog gPo #[rv] w1 λe w'=>e=.returned (enc (a i))/\HR w' (iq lt a n i) n F/\Fr F w1 w'):=by
  intro w1 h1;rw[<-HL.out];exact HS.out.pop h1
 clear HC S h HL;generalize enc (a i)=et at KP⊢;by_cases hni:n=i
 .have HE:Hid (iq lt a n i=a):=by unfold Hid iq;rw[if_pos hni]
  have hb:((n:Int)==(i:Int))=true:=by simp;omega
  have hb2:((n:Int) !=(i:Int))=false:=by simp;omega
  obtain rfl:i=n:=hni.symm;go_enter func196,ntmps196
  go_wp2_with fail
  refine HCL.out.mono ?_;clear HCL hm;rintro e w1⟨rfl,hf1⟩;obtain⟨rv4,hm4,HC4⟩:=KP.out w1 (by rw[HE.out];exact HS.out.fr HH.out hf1 (λ_ _ q=>q));have HCL4:=Hd HC4;have HF1:Hid (Fr F w w1):=hf1.mono (λ_ q=>q.elim);clear HC4 hf1 KP HE
  go_wp2_with fail
  refine HCL4.out.mono ?_;clear HCL4 hm4;rintro e w4⟨rfl,hr4,hf4⟩;have HR4:=Hd (And.intro hr4 (HF1.out.trans hf4 (λi q=>.inl q)));clear hr4 hf4;go_wp2;go_returns;exact⟨rfl,HR4.out⟩
 .have HE:Hid (iq lt a n i=gX lt (swp a i n) n i):=by unfold Hid iq;rw[if_neg hni]
  have hb:((n:Int)==(i:Int))=false:=by simp;omega
  have hb2:((n:Int) !=(i:Int))=true:=by simp;omega
  have hlt:i<n:=by omega
  go_enter func196,ntmps196
  go_wp2_with fail
  refine HCL.out.mono ?_;clear HCL hm;rintro e w1⟨rfl,hf1⟩;obtain⟨rv2,hm2,HC2⟩:=HS.out.swap (HS.out.fr HH.out hf1 (λ_ _ q=>q)) (i:=i) (j:=n) (by omega) (by omega);have HCL2:=Hd HC2;have HF1:Hid (Fr F w w1):=hf1.mono (λ_ q=>q.elim);clear HC2 hf1
  go_wp2_with fail
  refine HCL2.out.mono ?_;clear HCL2 hm2;rintro e w2⟨rfl,hr2,hf2⟩;obtain⟨b,HD,hb1,HU⟩:=uS HS.out hr2 (n:=n) (by omega) hlt;have HB:=Hd hb1;have HF2:=Hd (HF1.out.trans hf2 (λ_ q=>.inl q));clear hb1 hf2 hr2 HF1
  cases b with
  |true=>
   go_wp2_with fail
   refine HD.out.mono ?_;rintro e w3⟨rfl,hr3,hf3⟩;obtain⟨rv4,hm4,HC4⟩:=KP.out w3 (by rw[HE.out,HB.out (by first|rfl|trivial)];exact hr3);have HCL4:=Hd HC4;have HF3:=Hd (HF2.out.trans hf3 (λ_ q=>.inl q));clear HC4 hf3 hr3 KP HE HD HU HB HF2
   go_wp2_with fail
   refine HCL4.out.mono ?_;clear HCL4 hm4;rintro e w4⟨rfl,hr4,hf4⟩;have HR4:=Hd (And.intro hr4 (HF3.out.trans hf4 (λi q=>.inl q)));clear hr4 hf4;go_wp2;go_returns;exact⟨rfl,HR4.out⟩
  |false=>
   go_wp2_with fail
   refine HD.out.mono ?_;rintro e w3⟨rfl,hr3,hf3⟩;have HU2:=Hd (HU.out (by first|rfl|trivial) w3 hr3);have HF3:=Hd (HF2.out.trans hf3 (λ_ q=>.inl q));clear hf3 hr3 HD HU HB HF2
   go_wp2_with fail
   refine HU2.out.mono ?_;rintro e w5⟨rfl,hr5,hf5⟩;obtain⟨rv4,hm4,HC4⟩:=KP.out w5 (by rw[HE.out];exact hr5);have HCL4:=Hd HC4;have HF5:=Hd (HF3.out.trans hf5 (λ_ q=>.inl q));clear HC4 hf5 hr5 KP HE HU2 HF3
   go_wp2_with fail
   refine HCL4.out.mono ?_;clear HCL4 hm4;rintro e w4⟨rfl,hr4,hf4⟩;have HR4:=Hd (And.intro hr4 (HF5.out.trans hf4 (λi q=>.inl q)));clear hr4 hf4;go_wp2;go_returns;exact⟨rfl,HR4.out⟩
end
end
section
open Go.RowKit
theorem run_underlying{P:Program}{t:TypeId}{d:TypeDesc}(w:World)(h:P.underlying t=some d):(underlying t).run P w=.ok d w:=by
 unfold underlying;simp[go_sem,h]
theorem eI{P:Program}{fuel:Nat}{t e:TypeId}{i:TypeInfo}{f:FuncId}{v:Value}{p:Addr}{w:World}{name:String}(hi:P.info? t=some i)(hm:(i.methods.find? (λm=>m.name==name)).map (λm=>(m.path.toList,m.func))=some ([],some (f,false)))
  (hu:P.underlying t=some (.pointer e))(hagg:(isAgg e).run P w=.ok false w)(hc:w.cell? p=some v):(method (fuel+1) t (.pointer (some p)) name).run P w=.ok (f,v) w:=by
 obtain⟨m,hm1,hm2⟩:=Option.map_eq_some_iff.1 hm;simp only[Prod.mk.injEq]at hm2;obtain⟨hp,hf⟩:=hm2
 have hpe:m.path.isEmpty=true:=by
  have:m.path=#[]:=by apply Array.ext';rw[hp]
  rw[this];rfl
 unfold method;simp only[Sem.run_bind,run_typeInfo _ hi,Result.andThen_ok,hm1,hp,follow,Sem.run_pure,hf,receiverAt,run_underlying _ hu,Place.get,hpe,if_true];have hw:(Builtin.ssaWrapNilChk_ #[t] t #[.pointer (some p),strVal "",strVal ((name.splitOn ".").getLastD name)]).run P w=.ok (.pointer (some p)) w:=rfl
 have hl:(loadVar e p).run P w=.ok v w:=by
  unfold loadVar;rw[Sem.run_bind,hagg];simp[hc,go_sem]
 have ha:(asAddr (.pointer (some p))).run P w=.ok p w:=rfl;simp only[hw,Result.andThen_ok,ha,hl]
theorem bG{P:Program}{fuel:Nat}{t e:TypeId}{i:TypeInfo}{f:FuncId}{p:Addr}{w:World}{name:String}(hi:P.info? t=some i)(hm:(i.methods.find? (λm=>m.name==name)).map (λm=>(m.path.toList,m.func))=some ([],some (f,true)))
  (hu:P.underlying t=some (.pointer e)):(method (fuel+1) t (.pointer (some p)) name).run P w=.ok (f,.pointer (some p)) w:=by
 obtain⟨m,hm1,hm2⟩:=Option.map_eq_some_iff.1 hm;simp only[Prod.mk.injEq]at hm2;obtain⟨hp,hf⟩:=hm2;unfold method;simp only[Sem.run_bind,run_typeInfo _ hi,Result.andThen_ok,hm1,hp,follow,Sem.run_pure,hf,receiverAt,run_underlying _ hu,Place.get]
theorem bh{P:Program}{t:TypeId}{name:String}{f:FuncId}{b:Bool}(h:(P.info? t).bind (λi=>(i.methods.find? (λm=>m.name==name)).map (λm=>(m.path.toList,m.func)))=some ([],some (f,b))):
  ∃i,P.info? t=some i/\(i.methods.find? (λm=>m.name==name)).map (λm=>(m.path.toList,m.func))=some ([],some (f,b)):=Option.bind_eq_some_iff.1 h
end
section
open Go.Maps Go.Proofs.Tryz Go.RowKit
def vS(t:Th):Prop:=i64 t.x/\i64 t.a/\i64 t.b
def thF(a:Nat->Th)(i:Nat):Value:=if i%3=0 then .int .i64 (a (i/3)).x else if i%3=1 then .int .i64 (a (i/3)).a else .int .i64 (a (i/3)).b
theorem pN(a:Nat->Th)(k:Nat):thF a (k*3)=.int .i64 (a k).x:=by
 unfold thF;rw[if_pos (by omega),show k*3/3=k from by omega]
theorem DZ(a:Nat->Th)(k:Nat):thF a (k*3+1)=.int .i64 (a k).a:=by
 unfold thF;rw[if_neg (by omega),if_pos (by omega),show(k*3+1)/3=k from by omega]
theorem DV(a:Nat->Th)(k:Nat):thF a (k*3+2)=.int .i64 (a k).b:=by
 unfold thF;rw[if_neg (by omega),if_neg (by omega),show(k*3+2)/3=k from by omega]
theorem jW(a:Nat->Th)(k:Nat)(t:Th):upd (upd (upd (thF a) (k*3) (.int .i64 t.x)) (k*3+1) (.int .i64 t.a)) (k*3+2) (.int .i64 t.b)=thF (upd a k t):=by
 funext j
 by_cases e2:j=k*3+2
 .subst e2;rw[upd_same,DV,upd_same]
 .rw[aa _ _ e2]
  by_cases e1:j=k*3+1
  .subst e1;rw[upd_same,DZ,upd_same]
  .rw[aa _ _ e1]
   by_cases e0:j=k*3
   .subst e0;rw[upd_same,pN,upd_same]
   .rw[aa _ _ e0]
    unfold thF;rw[aa _ _ (by omega:¬j/3=k)]
theorem DL{α:Type}(a:Nat->α)(i j:Nat):upd (upd a i (a j)) j (a i)=swp a i j:=by
 funext k
 unfold upd swp;by_cases e1:k=j
 .subst e1
  by_cases e2:k=i
  .rw[if_pos rfl,if_pos e2,e2]
  .rw[if_pos rfl,if_neg e2,if_pos rfl]
 .rw[if_neg e1]
  by_cases e2:k=i
  .rw[if_pos e2,if_pos e2]
  .rw[if_neg e2,if_neg e2,if_neg e1]
theorem SlF.snoc3{w:World}{e:TypeId}{v:Value}{c:Nat->Value}{k:Nat}{u1 u2 u3:Value}(h:w.ownsRow 0 e 3 v (k+1) ((List.range (k*3)).map c++[u1,u2,u3])):SlF w e 3 v (k+1) (upd (upd (upd c (k*3) u1) (k*3+1) u2) (k*3+2) u3):=by
 unfold SlF;rw[show(k+1)*3=k*3+2+1 from by omega,<-b8,<-b8,<-b8,List.append_assoc,List.append_assoc];exact h
theorem MIq:MI prog 185 3 3 .i64 .i64:=⟨underlying185,underlying3,underlying3,λw=>Tryz.zeroValue3 w⟩
def MQ(w:World)(mo:Option Nat)(n:Nat)(g:Int->Option Int):Prop:=match mo with
 |none=>n=0/\∀x,g x=none
 |some mb=>MpN prog 3 3 .i64 .i64 w mb n g
def qH(lv:Value)(mo:Option Nat)(i:Nat):Value:=if i=0 then lv else .map mo
structure QC(w:World)(qb:Nat)(a:Nat->Th)(n:Nat)(lv:Value)(mo:Option Nat)(g:Int->Option Int):Prop where
 hd:Blk w qb 2 (qH lv mo)
 li:SlF w 277 3 lv n (thF a)
 mp:MQ w mo n g
 pl:∀x k,g x=some k↔∃j:Nat,k=(j:Int)/\j<n/\(a j).x=x
 ok:∀k,k<n->vS (a k)
 n1:∀b,lv.ownBlock=some b->¬b=qb/\¬mo=some b
 n2:∀b,mo=some b->¬b=qb
 sm:n<1000000
def FQ(qb:Nat)(lv:Value)(mo:Option Nat):Nat->Prop:=λi=>i=qb\/lv.ownBlock=some i\/mo=some i
def HRq(qb:Nat):World->(Nat->Th)->Nat->(Nat->Prop)->Prop:=λw a n F=>∃lv mo g,QC w qb a n lv mo g/\∀i,F i↔FQ qb lv mo i
section
variable{w w':World}{qb n:Nat}{a:Nat->Th}{lv:Value}{mo:Option Nat}{g:Int->Option Int}{F:Nat->Prop}
theorem MQ.fr(h:MQ w mo n g){G:Nat->Prop}(f:Fr G w w')(hG:∀b,mo=some b->¬G b):MQ w' mo n g:=by
 cases mo with
 |none=>exact h
 |some mb=>exact MpN.fr h f (hG mb rfl)
theorem MQ.lt(h:MQ w mo n g):∀b,mo=some b->b<w.heap.size:=by
 rintro b rfl;exact MpN.lt h
theorem QC.fr(h:QC w qb a n lv mo g){G:Nat->Prop}(f:Fr G w w')(hG:∀i,FQ qb lv mo i->¬G i):QC w' qb a n lv mo g:=
 ⟨h.hd.fr f (hG _ (.inl rfl)),h.li.fr f (λb q=>hG b (.inr (.inl q))),h.mp.fr f (λb q=>hG b (.inr (.inr q))),h.pl,h.ok,h.n1,h.n2,h.sm⟩
theorem QC.fr0(h:QC w qb a n lv mo g)(f:Fr NoF w w'):QC w' qb a n lv mo g:=h.fr f (λ_ _ q=>q)
theorem QC.lt(h:QC w qb a n lv mo g):∀i,FQ qb lv mo i->i<w.heap.size:=by
 rintro i(rfl|q|q)
 .exact h.hd.lt
 .exact h.li.lt i q
 .exact h.mp.lt i q
theorem QC.inj(h:QC w qb a n lv mo g):gN (λt:Th=>t.x) a n:=by
 intro k m hk hm e;have h1:=(h.pl (a k).x (k:Int)).2 ⟨k,rfl,hk,rfl⟩;have h2:=(h.pl (a k).x (m:Int)).2 ⟨m,rfl,hm,e.symm⟩;rw[h1]at h2;simp at h2;omega
theorem QC.c0(h:QC w qb a n lv mo g):w.cell? ⟨qb,0,none⟩=some lv:=h.hd.cell (i:=0) (by omega)
theorem QC.c1(h:QC w qb a n lv mo g):w.cell? ⟨qb,1,none⟩=some (.map mo):=h.hd.cell (i:=1) (by omega)
theorem QC.el(h:QC w qb a n lv mo g){i:Nat}(hi:i<n):∃gb cap,lv=.slice (some ⟨gb,0,none⟩) n cap/\n<=cap/\cap<=9223372036854775807/\gb<w.heap.size/\(∀j,w.frozen? ⟨gb,j,none⟩=false)/\w.cell? ⟨gb,i*3,none⟩=some (.int .i64 (a i).x)/\w.cell? ⟨gb,i*3+1,none⟩=some (.int .i64 (a i).a)/\w.cell? ⟨gb,i*3+2,none⟩=some (.int .i64 (a i).b):=by
 obtain⟨gb,cap,e,h1,h2,h3,h4,h5⟩:=h.li.at (by omega);exact⟨gb,cap,e,h1,by unfold maxLen at h2;omega,h3,h4,by rw[h5 _ (by omega),pN],by rw[h5 _ (by omega),DZ],by rw[h5 _ (by omega),DV]⟩
theorem q_len(h:QC w qb a n lv mo g):Calls prog 203 #[.pointer (some ⟨qb,0,none⟩)] w λe w'=>e=.returned (.int .i64 (n:Nat))/\w=w':=by
 have c0:=h.c0;have lb:=h.hd.lt;obtain⟨va,vc,rfl,_,_⟩:=h.li.shape;clear h;go_enter func203,ntmps203;go_wp2;go_returns;exact⟨rfl,rfl⟩
theorem Fi(h:QC w qb a n lv mo g){i j:Nat}(hi:i<n)(hj:j<n):Calls prog 268 #[.pointer (some ⟨qb,0,none⟩),.int .i64 i,.int .i64 j] w λe w'=>e=.returned (.bool (ltT (a i) (a j)))/\Fr NoF w w':=by
 have hn:=h.sm;have HC:Hid (∀W,Fr NoF w W->W.cell? ⟨qb,0,none⟩=some lv):=λW f=>(h.fr0 f).c0
 obtain⟨gb,cap,rfl,h1,h2,h3,h4,i0,i1,i2⟩:=h.el hi;obtain⟨gb',cap',e,_,_,_,_,j0,j1,j2⟩:=h.el hj;simp only[Value.slice.injEq,Option.some.injEq,Addr.mk.injEq]at e;obtain⟨⟨rfl,_⟩,_,rfl⟩:=e
 have HCL:Hid (∀W,Fr NoF w W->W.cell? ⟨gb,i*3,none⟩=some (.int .i64 (a i).x)/\W.cell? ⟨gb,i*3+1,none⟩=some (.int .i64 (a i).a)/\W.cell? ⟨gb,i*3+2,none⟩=some (.int .i64 (a i).b)/\W.cell? ⟨gb,j*3,none⟩=some (.int .i64 (a j).x)/\W.cell? ⟨gb,j*3+1,none⟩=some (.int .i64 (a j).a)/\W.cell? ⟨gb,j*3+2,none⟩=some (.int .i64 (a j).b)/\W.cell? ⟨qb,0,none⟩=some (.slice (some ⟨gb,0,none⟩) n cap)):=by
  intro W f;refine⟨?_,?_,?_,?_,?_,?_,HC.out W f⟩
  .rw[f.cell (p:=⟨gb,_,none⟩) h3 id];exact i0
  .rw[f.cell (p:=⟨gb,_,none⟩) h3 id];exact i1
  .rw[f.cell (p:=⟨gb,_,none⟩) h3 id];exact i2
  .rw[f.cell (p:=⟨gb,_,none⟩) h3 id];exact j0
  .rw[f.cell (p:=⟨gb,_,none⟩) h3 id];exact j1
  .rw[f.cell (p:=⟨gb,_,none⟩) h3 id];exact j2
 have HCM:=Hd (λW=>mt (a i) (a j) W);unfold thV at HCM;have HL:Hid (ltT (a i) (a j)=decide (cmpT (a i) (a j)<0)):=rfl;rw[HL.out];generalize cmpT (a i) (a j)=cv at*;generalize(a i).x=ix at*;generalize(a i).a=ia at*;generalize(a i).b=ib at*;generalize(a j).x=jx at*;generalize(a j).a=ja at*;generalize(a j).b=jb at*;have lb:=h.hd.lt;clear h h4 i0 i1 i2 j0 j1 j2 HL;go_enter func268,ntmps268
 go_wp2_with fail
 go_region_held3(λw'=>w'.cell? ⟨gb,i*3,none⟩=some (.int .i64 ix)/\w'.cell? ⟨gb,i*3+1,none⟩=some (.int .i64 ia)/\w'.cell? ⟨gb,i*3+2,none⟩=some (.int .i64 ib)/\w'.cell? ⟨gb,j*3,none⟩=some (.int .i64 jx)/\w'.cell? ⟨gb,j*3+1,none⟩=some (.int .i64 ja)/\w'.cell? ⟨gb,j*3+2,none⟩=some (.int .i64 jb)/\w'.cell? ⟨qb,0,none⟩=some (.slice (some ⟨gb,0,none⟩) n cap))
  (exact HCL.out _ (by repeat(first|exact FH.out|exact Fr.refl NoF _|apply Fr.drew|apply Fr.drewN)))
  (first
   |(go_at_call 272;(with_reducible refine(HCM.out _).mono ?_);rintro e wh⟨rfl,fh⟩;have FH:=Hd (((Fr.refl NoF w).drew).trans fh (λ_ q=>q.elim));clear fh))
 all_goals
  go_wp2;go_returns;exact⟨rfl,by repeat(first|exact FH.out|apply Fr.drew|apply Fr.drewN)⟩
theorem QC.swap{gb cap:Nat}(h:QC w qb a n (.slice (some ⟨gb,0,none⟩) n cap) mo g){i j:Nat}(hi:i<n)(hj:j<n){w1:World}
  (hw:w1=(((((w.setCell ⟨gb,i*3,none⟩ (.int .i64 (a j).x)).setCell ⟨gb,i*3+1,none⟩ (.int .i64 (a j).a)).setCell ⟨gb,i*3+2,none⟩ (.int .i64 (a j).b)).setCell ⟨gb,j*3,none⟩ (.int .i64 (a i).x)).setCell ⟨gb,j*3+1,none⟩ (.int .i64 (a i).a)).setCell ⟨gb,j*3+2,none⟩ (.int .i64 (a i).b)):
  SlF w1 277 3 (.slice (some ⟨gb,0,none⟩) n cap) n (thF (swp a i j))/\Fr (λk=>k=gb) w w1/\∃mb,mo=some mb/\MpN prog 3 3 .i64 .i64 w1 mb n g/\w1.cell? ⟨qb,0,none⟩=some (.slice (some ⟨gb,0,none⟩) n cap)/\w1.cell? ⟨qb,1,none⟩=some (.map (some mb))/\i64 (a i).x/\i64 (a j).x/\
   Hid (∀w2,MpN prog 3 3 .i64 .i64 w2 mb n (bX (bX g (a j).x (some (i:Int))) (a i).x (some (j:Int)))->Fr (λk=>k=mb) w1 w2->HRq qb w2 (swp a i j) n (FQ qb (.slice (some ⟨gb,0,none⟩) n cap) mo)/\Fr (FQ qb (.slice (some ⟨gb,0,none⟩) n cap) mo) w w2):=by
 have fr:Fr (λk=>k=gb) w w1:=by
  rw[hw];exact((((((Fr.refl (λk=>k=gb) w).setCell (p:=⟨gb,i*3,none⟩) (.inl rfl) _).setCell (p:=⟨gb,i*3+1,none⟩) (.inl rfl) _).setCell (p:=⟨gb,i*3+2,none⟩) (.inl rfl) _).setCell (p:=⟨gb,j*3,none⟩) (.inl rfl) _).setCell (p:=⟨gb,j*3+1,none⟩) (.inl rfl) _).setCell (p:=⟨gb,j*3+2,none⟩) (.inl rfl) _
 have s1:=((((((h.li.set (i:=i*3) (by omega) (.int .i64 (a j).x)).set (i:=i*3+1) (by omega) (.int .i64 (a j).a)).set (i:=i*3+2) (by omega) (.int .i64 (a j).b)).set (i:=j*3) (by omega) (.int .i64 (a i).x)).set (i:=j*3+1) (by omega) (.int .i64 (a i).a)).set (i:=j*3+2) (by omega) (.int .i64 (a i).b));rw[jW a i (a j),jW (upd a i (a j)) j (a i),DL,<-hw]at s1;clear hw;obtain⟨k1,k2⟩:=h.n1 gb rfl
 cases mo with
 |none=>have:=h.mp.1;omega
 |some mb=>
  have k3:=h.n2 mb rfl;have hne:¬mb=gb:=λq=>k2 (by rw[q])
  refine⟨s1,fr,mb,rfl,MpN.fr h.mp fr hne,?_,?_,(h.ok i hi).1,(h.ok j hj).1,?_⟩
  .rw[fr.cell (p:=⟨qb,0,none⟩) h.hd.lt (λq=>k1 q.symm)];exact h.c0
  .rw[fr.cell (p:=⟨qb,1,none⟩) h.hd.lt (λq=>k1 q.symm)];exact h.c1
  .intro w2 hm f2
   refine⟨⟨_,some mb,_,⟨(h.hd.fr fr (λq=>k1 q.symm)).fr f2 (λq=>k3 q.symm),s1.fr f2 (λb q e=>by rw[e]at q;exact(h.n1 mb q).2 rfl),hm,λx k=>?_,λk hk=>?_,h.n1,h.n2,h.sm⟩,λi=>Iff.rfl⟩,(fr.mono (λi q=>.inr (.inl (by rw[q];rfl)))).trans f2 (λi q=>.inl (.inr (.inr (by rw[q]))))⟩
   .have hij:=h.inj
    by_cases e1:x=(a i).x
    .subst e1
     rw[ba];constructor
     .rintro⟨rfl⟩
      refine⟨j,rfl,hj,?_⟩;unfold swp;split
      .rename_i q;rw[q]
      .rw[if_pos rfl]
     .rintro⟨j',rfl,hj',q⟩
      have:j'=j:=by
       have hs:=eJ hi hj hij;refine hs j' j hj' hj ?_
       show(swp a i j j').x=(swp a i j j).x
       rw[q];unfold swp;split
       .rename_i q;rw[q]
       .rw[if_pos rfl]
      rw[this]
    .rw[aE _ _ e1]
     by_cases e2:x=(a j).x
     .subst e2
      rw[ba];constructor
      .rintro⟨rfl⟩
       exact⟨i,rfl,hi,by unfold swp;rw[if_pos rfl]⟩
      .rintro⟨j',rfl,hj',q⟩
       have:j'=i:=by
        have hs:=eJ hi hj hij;refine hs j' i hj' hi ?_
        show(swp a i j j').x=(swp a i j i).x
        rw[q];unfold swp;rw[if_pos rfl]
       rw[this]
     .rw[aE _ _ e2,h.pl x k]
      constructor
      .rintro⟨j',rfl,hj',q⟩
       refine⟨j',rfl,hj',?_⟩;unfold swp;rw[if_neg (λe=>e1 (by rw[<-q,e])),if_neg (λe=>e2 (by rw[<-q,e]))];exact q
      .rintro⟨j',rfl,hj',q⟩
       refine⟨j',rfl,hj',?_⟩;unfold swp at q
       split at q
       .exact(e2 q.symm).elim
       .split at q
        .exact(e1 q.symm).elim
        .exact q
   .unfold swp
    split
    .exact h.ok j hj
    .split
     .exact h.ok i hi
     .exact h.ok k hk
end
end
end Go.Proofs.YtoenclhimbpfeaaGreatDoor
