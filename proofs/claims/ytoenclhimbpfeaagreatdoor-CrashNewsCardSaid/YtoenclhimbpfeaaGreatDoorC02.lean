/- Part 2. -/
import Derived.Test.YtoenclhimbpfeaaGreatDoorC01
import Derived.Handy
import Derived.Deep.LoopGhost
import Derived.Test.YtoenclhimbpfeaaGreatDoorRows
import Derived.WalkSpells
namespace Go.Proofs.YtoenclhimbpfeaaGreatDoor
set_option linter.all false
set_option maxHeartbeats 16000000
set_option maxRecDepth 100000
section
open Go.Proofs.Tryz Go.RowKit
abbrev OwnH(f:FuncId):Prop:=∀(args:Array Value) (w:World),(callFunc f args).run prog w=.ok (.enter f args) w
theorem own_ofH{f:FuncId}{fn:Func}{c:Code}(hf:prog.funcs[f]?=some fn)(hname:(fn.name== "runtime.NumGoroutine")=false)(hb:fn.body=some c):OwnH f:=fun args w=>by
 have h1:fn.name≠ "runtime.NumGoroutine" :=by simpa using hname
 simp[callFunc,hf,h1,hb]
structure HeapSys(hty:TypeId)(gLn gLs gSw gPu gPo:FuncId){α:Type}(lt:α->α->Bool)(HR:World->(Nat->α)->Nat->(Nat->Prop)->Prop)(p:Addr)(enc:α->Value)(okP:(Nat->α)->Nat->α->Prop):Prop where
 own:OwnH gLn∧OwnH gLs∧OwnH gSw∧OwnH gPu∧OwnH gPo
 fr:∀{w w':World} {a:Nat->α} {n:Nat} {F G:Nat->Prop},HR w a n F->Fr G w w'->(∀i,F i->¬G i)->HR w' a n F
 bd:∀{w:World} {a:Nat->α} {n:Nat} {F:Nat->Prop},HR w a n F->∀i,F i->i<w.heap.size
 small:∀{w:World} {a:Nat->α} {n:Nat} {F:Nat->Prop},HR w a n F->n<1000000
 len:∀{w:World} {a:Nat->α} {n:Nat} {F:Nat->Prop},HR w a n F->∃rv,(method 390 hty (.pointer (some p)) "Len").run prog w=.ok (gLn,rv) w∧Calls prog gLn #[rv] w fun e w'=>e=.returned (.int .i64 (n:Nat))∧Fr NoF w w'
 less:∀{w:World} {a:Nat->α} {n:Nat} {F:Nat->Prop} {i j:Nat},HR w a n F->i<n->j<n->∃rv,(method 390 hty (.pointer (some p)) "Less").run prog w=.ok (gLs,rv) w∧Calls prog gLs #[rv,.int .i64 i,.int .i64 j] w fun e w'=>e=.returned (.bool (lt (a i) (a j)))∧Fr NoF w w'
 swap:∀{w:World} {a:Nat->α} {n:Nat} {F:Nat->Prop} {i j:Nat},HR w a n F->i<n->j<n->∃rv,(method 390 hty (.pointer (some p)) "Swap").run prog w=.ok (gSw,rv) w∧Calls prog gSw #[rv,.int .i64 i,.int .i64 j] w fun e w'=>e=.returned (.tuple #[])∧HR w' (swp a i j) n F∧Fr F w w'
 push:∀{w:World} {a:Nat->α} {n:Nat} {F:Nat->Prop} {t:α},HR w a n F->okP a n t->∃rv,(method 390 hty (.pointer (some p)) "Push").run prog w=.ok (gPu,rv) w∧Calls prog gPu #[rv,enc t] w fun e w'=>e=.returned (.tuple #[])∧∃F',HR w' (upd a n t) (n+1) F'∧Fr F w w'∧∀i,F' i->F i∨w.heap.size<=i
 pop:∀{w:World} {a:Nat->α} {n:Nat} {F:Nat->Prop},HR w a (n+1) F->∃rv,(method 390 hty (.pointer (some p)) "Pop").run prog w=.ok (gPo,rv) w∧Calls prog gPo #[rv] w fun e w'=>e=.returned (enc (a n))∧HR w' a n F∧Fr F w w'
section
variable{hty:TypeId}{gLn gLs gSw gPu gPo:FuncId}{α:Type}{lt:α->α->Bool}{HR:World->(Nat->α)->Nat->(Nat->Prop)->Prop}{p:Addr}{enc:α->Value}{okP:(Nat->α)->Nat->α->Prop}(S:HeapSys hty gLn gLs gSw gPu gPo lt HR p enc okP){w:World}{a:Nat->α}{n:Nat}{F:Nat->Prop}
include S
theorem up_walk(h:HR w a n F){j:Nat}(hj:j<n):Calls prog 109 #[.iface hty (.pointer (some p)),.int .i64 j] w fun e w'=>e=.returned (.tuple #[])∧HR w' (upF lt a j) n F∧Fr F w w':=by
 have hn:=S.small h;have HS:=Hd S;obtain⟨oL,oI,oS,oP,oQ⟩:=S.own;have HH:=Hd h;clear h S;go_enter func109,ntmps109;go_wp2
 go_loopg [1] j (fun g v wr=>∃a':Nat->α,g<n∧v=.int .i64 g∧HR wr a' n F∧upF lt a' g=upF lt a j∧Fr F w wr)
 case atStart=>exact⟨a,hj,rfl,HH.out,rfl,Fr.refl _ _⟩
 case round=>
  obtain⟨a',hk,rfl,hr,he,hf⟩:=hrel;have HR1:=Hd hr;have HE:=Hd he;have HF:=Hd hf;clear hr he hf HH;by_cases h0:gk=0
  .have HU:Hid (upF lt a' gk=a'):=by unfold Hid;rw[upF,dif_pos h0]
   subst h0;go_wp2;go_returns;refine⟨rfl,?_,HF.out⟩;rw[<-HE.out,HU.out];exact HR1.out
  .have hp:((gk:Int)-1)/2=(par gk:Nat):=by unfold par;omega
   have hpk:par gk<gk:=by unfold par;omega
   have h1:1<=(gk:Int):=by omega
   have hne2:(((par gk:Nat):Int)==(gk:Int))=false:=by simp;omega
   have HUP:Hid (upF lt a' gk=if lt (a' gk) (a' (par gk))then upF lt (swp a' (par gk) gk) (par gk)else a'):=by
    unfold Hid;rw[upF,dif_neg h0]
   obtain⟨rv,hm,HC⟩:=HS.out.less (i:=gk) (j:=par gk) HR1.out hk (by omega);have HCL:=Hd HC
   have HSW:Hid (∀w',Fr NoF wr w'->∃rv,(method 390 hty (.pointer (some p)) "Swap").run prog w'=.ok (gSw,rv) w'∧Calls prog gSw #[rv,.int .i64 (par gk:Nat),.int .i64 gk] w' fun e w''=>e=.returned (.tuple #[])∧HR w'' (swp a' (par gk) gk) n F∧Fr F w' w''):=by
    intro w' f;exact HS.out.swap (HS.out.fr HR1.out f (fun _ _ q=>q)) (by omega) hk
   generalize hq:par gk=q at*;have HQ:=Hd hq;clear hq HC h0
   cases hl:lt (a' gk) (a' q)with
   |false=>
    rw[hl]at HCL HUP;clear hl
    go_wp2_with fail
    refine HCL.out.mono ?_;clear HCL hm;rintro e w2⟨rfl,hf2⟩;have HF2:=Hd hf2;clear hf2;go_wp2;go_returns;refine⟨rfl,?_,HF.out.trans HF2.out (fun _ q=>q.elim)⟩;rw[<-HE.out,HUP.out];exact HS.out.fr HR1.out HF2.out (fun _ _ q=>q)
   |true=>
    rw[hl]at HCL HUP;clear hl
    go_wp2_with fail
    refine HCL.out.mono ?_;clear HCL hm;rintro e w2⟨rfl,hf2⟩;obtain⟨rv2,hm2,HC2⟩:=HSW.out w2 hf2;have HCS:=Hd HC2;have HF2:=Hd (HF.out.trans hf2 (fun _ q=>q.elim));clear hf2 HC2
    go_wp2_with fail
    refine HCS.out.mono ?_;clear HCS hm2;rintro e w3⟨rfl,hr3,hf3⟩;have HR3:=Hd (And.intro hr3 (HF2.out.trans hf3 (fun i q=>.inl q)));clear hr3 hf3;go_wp2
    go_roundg q
    case measure=>omega
    case rel=>exact⟨swp a' q gk,by omega,rfl,HR3.out.1,by rw[<-HE.out,HUP.out];simp,HR3.out.2⟩
theorem down_walk{m:Nat}(h:HR w a m F)(hnm:n<=m){i:Nat}(hi:i<n):Calls prog 105 #[.iface hty (.pointer (some p)),.int .i64 i,.int .i64 n] w fun e w'=>e=.returned (.bool (decide (i<(downF lt n a i).2)))∧HR w' (downF lt n a i).1 m F∧Fr F w w':=by
 have hm0:=S.small h;have HS:=Hd S;obtain⟨oL,oI,oS,oP,oQ⟩:=S.own;have HH:=Hd h;clear h S;go_enter func105,ntmps105;go_wp2
 go_loopg [7] (n-i) (fun g v wr=>∃(k:Nat) (a':Nat->α),k<n∧g=n-k∧v=.int .i64 k∧HR wr a' m F∧downF lt n a' k=downF lt n a i∧Fr F w wr)
 case atStart=>exact⟨i,a,hi,rfl,rfl,HH.out,rfl,Fr.refl _ _⟩
 case round=>
  obtain⟨k,a',hk,rfl,rfl,hr,he,hf⟩:=hrel;have HR1:=Hd hr;have HE:=Hd he;have HF:=Hd hf;clear hr he hf HH;by_cases h0:n<=2*k+1
  .have HU:Hid (downF lt n a' k=(a',k)):=by unfold Hid;rw[downF,dif_pos h0]
   go_wp2;go_returns;have hE:=HE.out;rw[HU.out]at hE;rw[<-hE];exact⟨by first|rfl|simp,HR1.out,HF.out⟩
  .have HDN0:Hid (downF lt n a' k=if lt (a' (least2 lt a' n (2*k+1))) (a' k)then downF lt n (swp a' k (least2 lt a' n (2*k+1))) (least2 lt a' n (2*k+1))else(a',k)):=by
    unfold Hid;rw[downF,dif_neg h0]
   have HLS:Hid (∀(j:Nat) (w':World),Fr NoF wr w'->j<n->k<n->∃rv,(method 390 hty (.pointer (some p)) "Less").run prog w'=.ok (gLs,rv) w'∧Calls prog gLs #[rv,.int .i64 j,.int .i64 k] w' fun e w''=>e=.returned (.bool (lt (a' j) (a' k)))∧Fr NoF w' w''):=by
    intro j w' f h1 h2;exact HS.out.less (HS.out.fr HR1.out f (fun _ _ q=>q)) (by omega) (by omega)
   have HSW:Hid (∀(j:Nat) (w':World),Fr NoF wr w'->j<n->¬k=j->∃rv,(method 390 hty (.pointer (some p)) "Swap").run prog w'=.ok (gSw,rv) w'∧Calls prog gSw #[rv,.int .i64 k,.int .i64 j] w' fun e w''=>e=.returned (.tuple #[])∧HR w'' (swp a' k j) m F∧Fr F w' w''):=by
    intro j w' f h1 h2;exact HS.out.swap (HS.out.fr HR1.out f (fun _ _ q=>q)) (by omega) (by omega)
   have j1:2*k+1<n:=by omega
   by_cases h2:2*k+1+1<n
   .obtain⟨rv,hm,HC⟩:=HS.out.less (i:=2*k+1+1) (j:=2*k+1) HR1.out (by omega) (by omega)
    have HCL:=Hd HC;clear HC
    cases hb:lt (a' (2*k+1+1)) (a' (2*k+1))with
    |true=>
     rw[hb]at HCL
     have HDN:Hid (downF lt n a' k=if lt (a' (2*k+1+1)) (a' k)then downF lt n (swp a' k (2*k+1+1)) (2*k+1+1)else(a',k)):=by
      have:least2 lt a' n (2*k+1)=2*k+1+1:=by unfold least2;rw[if_pos ⟨h2,hb⟩]
      have:=this▸HDN0.out;exact this
     clear hb HDN0
     go_wp2_with fail
     refine HCL.out.mono ?_;clear HCL hm;rintro e w2⟨rfl,hf2⟩;have HF2:=Hd hf2;clear hf2;obtain⟨rv1,hm1,HC1⟩:=HLS.out (2*k+1+1) w2 HF2.out h2 (by omega);have HCL1:=Hd HC1;clear HC1
     cases hl:lt (a' (2*k+1+1)) (a' k)with
     |false=>
      rw[hl]at HCL1 HDN;clear hl
      go_wp2_with fail
      refine HCL1.out.mono ?_;clear HCL1 hm1;rintro e w3⟨rfl,hf3⟩;have HF3:=Hd (HF2.out.trans hf3 (fun _ q=>q.elim));clear hf3;go_wp2;go_returns;have hE:=HE.out;rw[HDN.out]at hE;simp only[Bool.false_eq_true,if_false]at hE;refine⟨?_,?_,HF.out.trans HF3.out (fun _ q=>q.elim)⟩
      .rw[<-hE];first|rfl|simp
      .rw[<-hE];exact HS.out.fr HR1.out HF3.out (fun _ _ q=>q)
     |true=>
      rw[hl]at HCL1 HDN;clear hl
      go_wp2_with fail
      refine HCL1.out.mono ?_;clear HCL1 hm1;rintro e w3⟨rfl,hf3⟩;obtain⟨rv2,hm2,HC2⟩:=HSW.out (2*k+1+1) w3 (HF2.out.trans hf3 (fun _ q=>q.elim)) h2 (by omega);have HCS:=Hd HC2;have HF3:=Hd (HF.out.trans (HF2.out.trans hf3 (fun _ q=>q.elim)) (fun _ q=>q.elim));clear hf3 HC2
      go_wp2_with fail
      refine HCS.out.mono ?_;clear HCS hm2;rintro e w4⟨rfl,hr4,hf4⟩;have HR4:=Hd (And.intro hr4 (HF3.out.trans hf4 (fun i q=>.inl q)));clear hr4 hf4;go_wp2
      go_roundg (n-((2*k+1+1)))
      case measure=>omega
      case rel=>exact⟨(2*k+1+1),swp a' k ((2*k+1+1)),h2,rfl,by first|rfl|go_num|(simp;done)|(congr 1;push_cast;omega),HR4.out.1,by rw[<-HE.out,HDN.out];simp,HR4.out.2⟩
    |false=>
     rw[hb]at HCL
     have HDN:Hid (downF lt n a' k=if lt (a' (2*k+1)) (a' k)then downF lt n (swp a' k (2*k+1)) (2*k+1)else(a',k)):=by
      have:least2 lt a' n (2*k+1)=2*k+1:=by unfold least2;rw[if_neg (fun q=>by rw[hb]at q;cases q.2)]
      have:=this▸HDN0.out;exact this
     clear hb HDN0
     go_wp2_with fail
     refine HCL.out.mono ?_;clear HCL hm;rintro e w2⟨rfl,hf2⟩;have HF2:=Hd hf2;clear hf2;obtain⟨rv1,hm1,HC1⟩:=HLS.out (2*k+1) w2 HF2.out j1 (by omega);have HCL1:=Hd HC1;clear HC1
     cases hl:lt (a' (2*k+1)) (a' k)with
     |false=>
      rw[hl]at HCL1 HDN;clear hl
      go_wp2_with fail
      refine HCL1.out.mono ?_;clear HCL1 hm1;rintro e w3⟨rfl,hf3⟩;have HF3:=Hd (HF2.out.trans hf3 (fun _ q=>q.elim));clear hf3;go_wp2;go_returns;have hE:=HE.out;rw[HDN.out]at hE;simp only[Bool.false_eq_true,if_false]at hE;refine⟨?_,?_,HF.out.trans HF3.out (fun _ q=>q.elim)⟩
      .rw[<-hE];first|rfl|simp
      .rw[<-hE];exact HS.out.fr HR1.out HF3.out (fun _ _ q=>q)
     |true=>
      rw[hl]at HCL1 HDN;clear hl
      go_wp2_with fail
      refine HCL1.out.mono ?_;clear HCL1 hm1;rintro e w3⟨rfl,hf3⟩;obtain⟨rv2,hm2,HC2⟩:=HSW.out (2*k+1) w3 (HF2.out.trans hf3 (fun _ q=>q.elim)) j1 (by omega);have HCS:=Hd HC2;have HF3:=Hd (HF.out.trans (HF2.out.trans hf3 (fun _ q=>q.elim)) (fun _ q=>q.elim));clear hf3 HC2
      go_wp2_with fail
      refine HCS.out.mono ?_;clear HCS hm2;rintro e w4⟨rfl,hr4,hf4⟩;have HR4:=Hd (And.intro hr4 (HF3.out.trans hf4 (fun i q=>.inl q)));clear hr4 hf4;go_wp2
      go_roundg (n-((2*k+1)))
      case measure=>omega
      case rel=>exact⟨(2*k+1),swp a' k ((2*k+1)),j1,rfl,by first|rfl|go_num|(simp;done)|(congr 1;push_cast;omega),HR4.out.1,by rw[<-HE.out,HDN.out];simp,HR4.out.2⟩
   .have HDN:Hid (downF lt n a' k=if lt (a' (2*k+1)) (a' k)then downF lt n (swp a' k (2*k+1)) (2*k+1)else(a',k)):=by
     have:least2 lt a' n (2*k+1)=2*k+1:=by unfold least2;rw[if_neg (fun q=>h2 q.1)]
     have:=this▸HDN0.out;exact this
    clear HDN0;obtain⟨rv1,hm1,HC1⟩:=HLS.out (2*k+1) wr (Fr.refl NoF wr) j1 (by omega);have HCL1:=Hd HC1;clear HC1
    cases hl:lt (a' (2*k+1)) (a' k)with
    |false=>
     rw[hl]at HCL1 HDN;clear hl
     go_wp2_with fail
     refine HCL1.out.mono ?_;clear HCL1 hm1;rintro e w3⟨rfl,hf3⟩;have HF3:=Hd ((Fr.refl NoF wr).trans hf3 (fun _ q=>q.elim));clear hf3;go_wp2;go_returns;have hE:=HE.out;rw[HDN.out]at hE;simp only[Bool.false_eq_true,if_false]at hE;refine⟨?_,?_,HF.out.trans HF3.out (fun _ q=>q.elim)⟩
     .rw[<-hE];first|rfl|simp
     .rw[<-hE];exact HS.out.fr HR1.out HF3.out (fun _ _ q=>q)
    |true=>
     rw[hl]at HCL1 HDN;clear hl
     go_wp2_with fail
     refine HCL1.out.mono ?_;clear HCL1 hm1;rintro e w3⟨rfl,hf3⟩;obtain⟨rv2,hm2,HC2⟩:=HSW.out (2*k+1) w3 ((Fr.refl NoF wr).trans hf3 (fun _ q=>q.elim)) j1 (by omega);have HCS:=Hd HC2;have HF3:=Hd (HF.out.trans ((Fr.refl NoF wr).trans hf3 (fun _ q=>q.elim)) (fun _ q=>q.elim));clear hf3 HC2
     go_wp2_with fail
     refine HCS.out.mono ?_;clear HCS hm2;rintro e w4⟨rfl,hr4,hf4⟩;have HR4:=Hd (And.intro hr4 (HF3.out.trans hf4 (fun i q=>.inl q)));clear hr4 hf4;go_wp2
     go_roundg (n-((2*k+1)))
     case measure=>omega
     case rel=>exact⟨(2*k+1),swp a' k ((2*k+1)),j1,rfl,by first|rfl|go_num|(simp;done)|(congr 1;push_cast;omega),HR4.out.1,by rw[<-HE.out,HDN.out];simp,HR4.out.2⟩
end
def popF{α:Type}(lt:α->α->Bool)(a:Nat->α)(n:Nat):Nat->α:=if n=0 then a else(downF lt n (swp a 0 n) 0).1
def fixF{α:Type}(lt:α->α->Bool)(a:Nat->α)(n i:Nat):Nat->α:=if i<(downF lt n a i).2 then(downF lt n a i).1 else upF lt (downF lt n a i).1 i
def remF{α:Type}(lt:α->α->Bool)(a:Nat->α)(n i:Nat):Nat->α:=if n=i then a else fixF lt (swp a i n) n i
theorem down_zero{hty:TypeId}(p:Addr)(w:World)(i:Nat)(hi:i<1000000):Calls prog 105 #[.iface hty (.pointer (some p)),.int .i64 i,.int .i64 (0:Nat)] w fun e w'=>e=.returned (.bool false)∧w=w':=by
 go_enter func105,ntmps105;go_wp2
 go_loopg [7] 1 (fun g v wr=>g=1∧v=.int .i64 i∧w=wr)
 case atStart=>exact⟨rfl,rfl,rfl⟩
 case round=>
  obtain⟨rfl,rfl,rfl⟩:=hrel;go_wp2;go_returns;exact⟨by simp,rfl⟩
section
variable{hty:TypeId}{gLn gLs gSw gPu gPo:FuncId}{α:Type}{lt:α->α->Bool}{HR:World->(Nat->α)->Nat->(Nat->Prop)->Prop}{p:Addr}{enc:α->Value}{okP:(Nat->α)->Nat->α->Prop}(S:HeapSys hty gLn gLs gSw gPu gPo lt HR p enc okP){w:World}{a:Nat->α}{n:Nat}{F:Nat->Prop}
include S
theorem heap_push(h:HR w a n F){t:α}(ht:okP a n t):Calls prog 87 #[.iface hty (.pointer (some p)),enc t] w fun e w'=>e=.returned (.tuple #[])∧∃F',HR w' (upF lt (upd a n t) n) (n+1) F'∧Fr F w w'∧∀i,F' i->F i∨w.heap.size<=i:=by
 obtain⟨rv,hm,HC⟩:=S.push h ht;have HCL:=Hd HC;have HS:=Hd S;obtain⟨oL,oI,oS,oP,oQ⟩:=S.own;have hn:=S.small h;clear HC S h ht;generalize enc t=et at*;go_enter func87,ntmps87
 go_wp2_with fail
 refine HCL.out.mono ?_;clear HCL hm;rintro e w1⟨rfl,F1,hr1,hf1,hF1⟩;obtain⟨rv2,hm2,HC2⟩:=HS.out.len hr1;have HCL2:=Hd HC2;have HR1:=Hd (And.intro hr1 (And.intro hf1 hF1));clear HC2 hr1 hf1 hF1
 go_wp2_with fail
 refine HCL2.out.mono ?_;clear HCL2 hm2;rintro e w2⟨rfl,hf2⟩;have HU:=Hd (up_walk HS.out (HS.out.fr HR1.out.1 hf2 (fun _ _ q=>q)) (j:=n) (by omega));have HF2:=Hd hf2;clear hf2;have e1:((n+1:Nat):Int)-1=(n:Int):=by omega
 go_wp2_with fail
 refine HU.out.mono ?_;clear HU;rintro e w3⟨rfl,hr3,hf3⟩;have HR3:=Hd (And.intro hr3 hf3);clear hr3 hf3;go_wp2;go_returns;refine⟨rfl,F1,HR3.out.1,(HR1.out.2.1.trans HF2.out (fun _ q=>q.elim)).trans HR3.out.2 (fun i q=>HR1.out.2.2 i q),HR1.out.2.2⟩
theorem heap_pop(h:HR w a (n+1) F):Calls prog 80 #[.iface hty (.pointer (some p))] w fun e w'=>e=.returned (enc (a 0))∧HR w' (popF lt a n) n F∧Fr F w w':=by
 have hn:=S.small h;obtain⟨rv,hm,HC⟩:=S.len h;have HCL:=Hd HC;have HS:=Hd S;obtain⟨oL,oI,oS,oP,oQ⟩:=S.own;have HH:=Hd h;have e1:((n+1:Nat):Int)-1=(n:Int):=by omega
 clear HC S h;go_enter func80,ntmps80
 go_wp2_with fail
 refine HCL.out.mono ?_;clear HCL hm;rintro e w1⟨rfl,hf1⟩;obtain⟨rv2,hm2,HC2⟩:=HS.out.swap (HS.out.fr HH.out hf1 (fun _ _ q=>q)) (i:=0) (j:=n) (by omega) (by omega);have HCL2:Hid (Calls prog gSw #[rv2,.int .i64 0,.int .i64 n] w1 fun e w''=>e=.returned (.tuple #[])∧HR w'' (swp a 0 n) (n+1) F∧Fr F w1 w''):=HC2;have HF1:=Hd hf1;clear HC2 hf1
 go_wp2_with fail
 refine HCL2.out.mono ?_;clear HCL2 hm2;rintro e w2⟨rfl,hr2,hf2⟩
 have HD:Hid (∃q:Bool,Calls prog 105 #[.iface hty (.pointer (some p)),.int .i64 0,.int .i64 n] w2 fun e w'=>e=.returned (.bool q)∧HR w' (popF lt a n) (n+1) F∧Fr F w2 w'):=by
  unfold Hid popF;by_cases h0:n=0
  .subst h0
   rw[if_pos rfl];have hsw:swp a 0 0=a:=by funext k;unfold swp;by_cases e:k=0<;>simp[e]
   rw[hsw]at hr2;exact⟨_,(down_zero p w2 0 (by omega)).mono fun e w' ⟨he,hw⟩=>⟨he,hw▸hr2,hw▸Fr.refl _ _⟩⟩
  .rw[if_neg h0]
   exact⟨_,(down_walk HS.out hr2 (n:=n) (by omega) (i:=0) (by omega)).mono fun e w' ⟨he,h1,h2⟩=>⟨he,h1,h2⟩⟩
 have HF2:=Hd ((HF1.out.mono (fun _ q=>q.elim)).trans hf2 (fun i q=>.inl q));clear hr2 hf2;obtain⟨q,hd⟩:=HD.out;have HD2:=Hd hd;clear hd HD
 go_wp2_with fail
 refine HD2.out.mono ?_;clear HD2;rintro e w3⟨rfl,hr3,hf3⟩;obtain⟨rv4,hm4,HC4⟩:=HS.out.pop hr3
 have HE:Hid (popF lt a n n=a 0):=by
  unfold Hid popF
  split
  .rename_i q;rw[q]
  .rw[down_out lt n (swp a 0 n) 0 (by omega) (by omega) n (Nat.le_refl _)]
   unfold swp;split
   .rename_i q;rw[q]
   .rw[if_pos rfl]
 have HCL4:=Hd HC4;have HF3:=Hd (HF2.out.trans hf3 (fun i q=>.inl q));clear HC4 hr3 hf3
 go_wp2_with fail
 refine HCL4.out.mono ?_;clear HCL4 hm4;rintro e w4⟨rfl,hr4,hf4⟩;have HR4:=Hd (And.intro hr4 (HF3.out.trans hf4 (fun i q=>.inl q)));clear hr4 hf4;rw[HE.out];generalize hET:enc (a 0)=et;have HET:=Hd hET;clear hET;go_wp2;go_returns;exact⟨by rw[HET.out];rfl,HR4.out⟩
end
end
section
open Go.RowKit
theorem run_underlying{P:Program}{t:TypeId}{d:TypeDesc}(w:World)(h:P.underlying t=some d):(underlying t).run P w=.ok d w:=by
 unfold underlying;simp[go_sem,h]
theorem method_value{P:Program}{fuel:Nat}{t e:TypeId}{i:TypeInfo}{f:FuncId}{v:Value}{p:Addr}{w:World}{name:String}(hi:P.info? t=some i)(hm:(i.methods.find? (fun m=>m.name==name)).map (fun m=>(m.path.toList,m.func))=some ([],some (f,false)))
  (hu:P.underlying t=some (.pointer e))(hagg:(isAgg e).run P w=.ok false w)(hc:w.cell? p=some v):(method (fuel+1) t (.pointer (some p)) name).run P w=.ok (f,v) w:=by
 obtain⟨m,hm1,hm2⟩:=Option.map_eq_some_iff.1 hm;simp only[Prod.mk.injEq]at hm2;obtain⟨hp,hf⟩:=hm2
 have hpe:m.path.isEmpty=true:=by
  have:m.path=#[]:=by apply Array.ext';rw[hp]
  rw[this];rfl
 unfold method;simp only[Sem.run_bind,run_typeInfo _ hi,Result.andThen_ok,hm1,hp,follow,Sem.run_pure,hf,receiverAt,run_underlying _ hu,Place.get,hpe,if_true];have hw:(Builtin.ssaWrapNilChk_ #[t] t #[.pointer (some p),strVal "",strVal ((name.splitOn ".").getLastD name)]).run P w=.ok (.pointer (some p)) w:=rfl
 have hl:(loadVar e p).run P w=.ok v w:=by
  unfold loadVar;rw[Sem.run_bind,hagg];simp[hc,go_sem]
 have ha:(asAddr (.pointer (some p))).run P w=.ok p w:=rfl;simp only[hw,Result.andThen_ok,ha,hl]
theorem method_ptr{P:Program}{fuel:Nat}{t e:TypeId}{i:TypeInfo}{f:FuncId}{p:Addr}{w:World}{name:String}(hi:P.info? t=some i)(hm:(i.methods.find? (fun m=>m.name==name)).map (fun m=>(m.path.toList,m.func))=some ([],some (f,true)))
  (hu:P.underlying t=some (.pointer e)):(method (fuel+1) t (.pointer (some p)) name).run P w=.ok (f,.pointer (some p)) w:=by
 obtain⟨m,hm1,hm2⟩:=Option.map_eq_some_iff.1 hm;simp only[Prod.mk.injEq]at hm2;obtain⟨hp,hf⟩:=hm2;unfold method;simp only[Sem.run_bind,run_typeInfo _ hi,Result.andThen_ok,hm1,hp,follow,Sem.run_pure,hf,receiverAt,run_underlying _ hu,Place.get]
theorem method_of{P:Program}{t:TypeId}{name:String}{f:FuncId}{b:Bool}(h:(P.info? t).bind (fun i=>(i.methods.find? (fun m=>m.name==name)).map (fun m=>(m.path.toList,m.func)))=some ([],some (f,b))):
  ∃i,P.info? t=some i∧(i.methods.find? (fun m=>m.name==name)).map (fun m=>(m.path.toList,m.func))=some ([],some (f,b)):=Option.bind_eq_some_iff.1 h
def SlF(w:World)(e:TypeId)(size:Nat)(v:Value)(n:Nat)(c:Nat->Value):Prop:=w.ownsRow 0 e size v n ((List.range (n*size)).map c)
section
variable{w w':World}{e:TypeId}{size n:Nat}{v:Value}{c:Nat->Value}
theorem SlF.nil(w:World)(e:TypeId)(size:Nat)(c:Nat->Value):SlF w e size (.slice none 0 0) 0 c:=by
 unfold SlF;rw[Nat.zero_mul];exact World.ownsRow_nil _ _ _ _
theorem SlF.congr(h:SlF w e size v n c){c':Nat->Value}(hc:∀i,i<n*size->c i=c' i):SlF w e size v n c':=by
 unfold SlF at*;have:(List.range (n*size)).map c=(List.range (n*size)).map c':=List.map_congr_left (fun i hi=>hc i (List.mem_range.1 hi));rw[<-this];exact h
theorem SlF.fr(h:SlF w e size v n c){G:Nat->Prop}(f:Fr G w w')(hG:∀b,v.ownBlock=some b->¬G b):SlF w' e size v n c:=own_keep h f hG
theorem SlF.fr0(h:SlF w e size v n c)(f:Fr NoF w w'):SlF w' e size v n c:=own_keep h f (fun _ _ q=>q)
theorem SlF.lt(h:SlF w e size v n c):∀b,v.ownBlock=some b->b<w.heap.size:=fun b hb=>(World.ownsRow.lt h b hb).2
theorem SlF.shape(h:SlF w e size v n c):∃a cap,v=.slice a n cap∧n<=cap∧cap<=maxLen:=by
 obtain⟨hl,h2⟩:=h;rcases h2 with⟨rfl,rfl⟩|⟨g,cap,cur,rfl,hg,hh,h3,h4,h5,h6⟩
 .exact⟨none,0,rfl,Nat.le_refl _,by unfold maxLen;omega⟩
 .exact⟨_,cap,rfl,h3,h4⟩
theorem SlF.at(h:SlF w e size v n c)(hn:0<n):∃g cap,v=.slice (some ⟨g,0,none⟩) n cap∧n<=cap∧cap<=maxLen∧g<w.heap.size∧(∀i,w.frozen? ⟨g,i,none⟩=false)∧(∀i,i<n*size->w.cell? ⟨g,i,none⟩=some (c i)):=by
 have hlt:=h.lt;obtain⟨hl,h2⟩:=h;rcases h2 with⟨rfl,rfl⟩|⟨g,cap,cur,rfl,hg,hh,h3,h4,h5,h6⟩
 .omega
 .refine⟨g,cap,rfl,h3,h4,hlt g rfl,fun i=>by simp[World.frozen?,hh],fun i hi=>?_⟩
  have:((List.range (n*size)).map c)[i]?=some (c i):=by simp[hi]
  rw[<-h6,List.getElem?_take,if_pos (by simpa using hi)]at this;simpa[World.cell?,hh]using this
theorem SlF.set{g cap:Nat}(h:SlF w e size (.slice (some ⟨g,0,none⟩) n cap) n c){i:Nat}(hi:i<n*size)(u:Value):SlF (w.setCell ⟨g,i,none⟩ u) e size (.slice (some ⟨g,0,none⟩) n cap) n (upd c i u):=by
 obtain⟨hl,h2⟩:=h;refine⟨by simp,.inr ?_⟩;rcases h2 with⟨h2,_⟩|⟨g',cap',cur,h2,hg,hh,h3,h4,h5,h6⟩
 .cases h2
 .simp only[Value.slice.injEq,Option.some.injEq,Addr.mk.injEq]at h2
  obtain⟨⟨rfl,_⟩,_,rfl⟩:=h2;refine⟨g,cap,cur.setIfInBounds i u,rfl,Nat.zero_le _,?_,h3,h4,by simp[h5],?_⟩
  .simp[World.setCell,Array.getElem?_modify,hh]
  .apply List.ext_getElem?
   intro j;rw[List.getElem?_take];by_cases hj:j<n*size
   .have h7:((List.range (n*size)).map c)[j]?=some (c j):=by simp[hj]
    rw[<-h6,List.getElem?_take,if_pos (by simpa using hj)]at h7;rw[if_pos (by simpa using hj)];have h8:((List.range (n*size)).map (upd c i u))[j]?=some (upd c i u j):=by simp[hj]
    rw[h8,Array.toList_setIfInBounds,List.getElem?_set];by_cases e1:i=j
    .subst e1
     have hlen:i<cur.toList.length:=(List.getElem?_eq_some_iff.1 h7).1;rw[if_pos rfl,if_pos hlen,upd_same]
    .rw[if_neg e1,h7,upd_other _ _ (fun q=>e1 q.symm)]
   .rw[if_neg (by simpa using hj)]
    simp[Nat.le_of_not_lt hj]
theorem SlF.cut{a:Option Addr}{cap:Nat}(h:SlF w e size (.slice a n cap) n c){m:Nat}(hm:m<=n):SlF w e size (.slice a m cap) m c:=by
 obtain⟨hl,h2⟩:=h;refine⟨by simp,?_⟩;rcases h2 with⟨h2,h3⟩|⟨g',cap',cur,h2,hg,hh,h3,h4,h5,h6⟩
 .simp only[Value.slice.injEq]at h2
  obtain⟨rfl,rfl,rfl⟩:=h2
  left
  have:m=0:=by omega
  subst this;exact⟨rfl,rfl⟩
 .simp only[Value.slice.injEq]at h2
  obtain⟨rfl,_,rfl⟩:=h2;refine .inr ⟨g',cap,cur,rfl,hg,hh,by omega,h4,h5,?_⟩;have hmn:m*size<=n*size:=Nat.mul_le_mul_right _ hm;apply List.ext_getElem?;intro j;rw[List.getElem?_take];by_cases hj:j<m*size
  .rw[if_pos (by simpa using hj)]
   have h7:((List.range (n*size)).map c)[j]?=some (c j):=by simp[show j<n*size from by omega]
   rw[<-h6,List.getElem?_take,if_pos (by omega)]at h7;rw[h7];simp[hj]
  .rw[if_neg (by simpa using hj)]
   simp[Nat.le_of_not_lt hj]
theorem range_snoc(c:Nat->Value)(k:Nat)(u:Value):(List.range k).map c++[u]=(List.range (k+1)).map (upd c k u):=by
 rw[List.range_succ,List.map_append]
 congr 1
 .apply List.map_congr_left
  intro i hi;rw[upd_other];have:=List.mem_range.1 hi;omega
 .simp[upd_same]
theorem SlF.snoc1{k:Nat}{u:Value}(h:w.ownsRow 0 e 1 v (k+1) ((List.range (k*1)).map c++[u])):SlF w e 1 v (k+1) (upd c k u):=by
 unfold SlF;rw[Nat.mul_one]at*;rw[<-range_snoc];exact h
theorem SlF.snoc2{k:Nat}{u1 u2:Value}(h:w.ownsRow 0 e 2 v (k+1) ((List.range (k*2)).map c++[u1,u2])):SlF w e 2 v (k+1) (upd (upd c (k*2) u1) (k*2+1) u2):=by
 unfold SlF;rw[show(k+1)*2=k*2+1+1 from by omega,<-range_snoc,<-range_snoc,List.append_assoc];exact h
end
def uN(g:Nat->Nat)(i:Nat):Value:=.int .u32 (g i:Nat)
theorem uN_set(g:Nat->Nat)(i x:Nat):upd (uN g) i (.int .u32 (x:Nat))=uN (upd g i x):=by
 funext j
 by_cases e:j=i
 .subst e;simp[upd_same,uN]
 .rw[upd_other _ _ e];simp[uN,upd_other _ _ e]
end
section
open Go.Proofs.Tryz Go.RowKit
theorem info_parts'{P:Program}{e:TypeId}{z:Value}{s b:Nat}(h:(P.info? e).map (fun i=>(i.zero,i.size,i.bytes))=some (some z,s,b)):∃i,P.info? e=some i∧i.zero=some z∧i.size=s∧i.bytes=b:=by
 cases hi:P.info? e with
 |none=>rw[hi]at h;cases h
 |some i=>
  rw[hi]at h;simp only[Option.map_some,Option.some.injEq,Prod.mk.injEq]at h;exact⟨i,rfl,h⟩
theorem EI.mk'{P:Program}{t e:TypeId}{z:Value}{s b:Nat}(ht:P.underlying t=some (.slice e))(h:(P.info? e).map (fun i=>(i.zero,i.size,i.bytes))=some (some z,s,b))(hz:z.cells.size=s)(hs:0<s):EI P t e s b:=by
 obtain⟨i,h1,h2,h3,h4⟩:=info_parts' h;exact⟨ht,i,z,h1,h2,h3,h4,hz,hs⟩
theorem mkN{P:Program}{t e:TypeId}{z:Value}{cs:Array Value}{s b k:Nat}(hu:P.underlying t=some (.slice e))(h:(P.info? e).map (fun i=>(i.zero,i.size,i.bytes))=some (some z,s,b))(hc:z.cells=cs)(n:Nat)(hn:b*n<=200000000000∧n<=200000000000)(hk:n*s=k):
  ∀w:World,(Instr.makeSlice t (.int .i64 (n:Int)) (.int .i64 (n:Int))).run P w=.ok (.slice (some ⟨w.heap.size,0,none⟩) n n) (w.alloc (.cells (madeCells cs k) e)):=by
 intro w;obtain⟨i0,hi,hz,hs,hb⟩:=info_parts' h;have:=run_make (P:=P) w t e i0 _ hu hi hz .i64 .i64 (n:Int) (n:Int) (by omega) (Int.le_refl _) (by rw[hb];have:((b*n:Nat):Int)=(b:Int)*n:=Int.natCast_mul ..;omega) (by omega);rw[show((n:Int)).toNat=n from by omega,hs,hk,hc]at this;exact this
theorem mkU(n:Nat)(hn:n<=1000000):∀w:World,(Instr.makeSlice 51 (.int .i64 (n:Int)) (.int .i64 (n:Int))).run prog w=.ok (.slice (some ⟨w.heap.size,0,none⟩) n n) (w.alloc (.cells (madeCells #[.int .u32 0] n) 34)):=
 mkN (z:=.int .u32 0) (b:=4) underlying51 (by kernel_rfl) rfl n (by omega) (Nat.mul_one n)
theorem mkB(n:Nat)(hn:n<=1000000):∀w:World,(Instr.makeSlice 102 (.int .i64 (n:Int)) (.int .i64 (n:Int))).run prog w=.ok (.slice (some ⟨w.heap.size,0,none⟩) n n) (w.alloc (.cells (madeCells #[.bool false] n) 4)):=
 mkN (z:=.bool false) (b:=1) underlying102 (by kernel_rfl) rfl n (by omega) (Nat.mul_one n)
theorem EIu:EI prog 51 34 1 4:=EI.mk' (z:=.int .u32 0) underlying51 (by kernel_rfl) rfl (by decide)
def awayN(l:List Nat)(x:Nat):List Nat:=l.filter fun y=>!decide (y=x)
theorem OwK.snoc{k:IntKind}{base:Nat}{e:TypeId}{w:World}{v:Value}{l:List Nat}{y:Nat}(h:w.ownsRow base e 1 v (l.length+1) ((l.map fun(x:Nat)=>Value.int k (x:Int))++[Value.int k (y:Int)])):OwK k base e w v (l++[y]):=by
 unfold OwK;simpa using h
end
end Go.Proofs.YtoenclhimbpfeaaGreatDoor
