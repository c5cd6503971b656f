/- Part 4. -/
import Derived.Test.YtipopinjppjnfaaGreatDoorK03
namespace Go.Proofs.YtipopinjppjnfaaGreatDoor
set_option linter.all false
set_option maxHeartbeats 16000000
set_option maxRecDepth 100000
section
open Go.Proofs.Tryz Go.RowKit
structure Adv(σ:Type) where
 miss:σ->Nat->σ
 access:σ->Nat->Nat->σ
 set:σ->Nat->Bool->σ
 victim:σ->Nat->Option Nat
 aft:σ->Nat->σ
 remove:σ->Nat->σ
def Tld{τ:Type}(RR:World->τ->(Nat->Prop)->Prop)(s':τ)(F:Nat->Prop)(w w':World):Prop:=∃F',RR w' s' F'∧Fr F w w'∧∀i,F' i->F i∨w.heap.size<=i
def Goer(n:Nat)(pg:Nat->Nat)(ev:Nat->Bool)(x:Nat):Prop:=x<n∧¬pg x=0∧ev x=true
structure RepSys{τ:Type}(P:Adv τ)(RR:World->τ->(Nat->Prop)->Prop)(pb:Nat)(rv:Value)(n:Nat)(ok:Nat->τ->(Nat->Nat)->(Nat->Bool)->Prop):Prop where
 fr:∀{w w':World} {s:τ} {F G:Nat->Prop},RR w s F->Fr G w w'->(∀i,F i->¬G i)->RR w' s F
 lt:∀{w:World} {s:τ} {F:Nat->Prop},RR w s F->∀i,F i->i<w.heap.size
 more:∀{m k:Nat} {s:τ} {pg:Nat->Nat} {ev:Nat->Bool},ok m s pg ev->m<=k->ok k s pg ev
 same:∀{m:Nat} {s:τ} {pg pg':Nat->Nat} {ev ev':Nat->Bool},ok m s pg ev->(∀i,i<n->pg i=pg' i)->(∀i,i<n->¬pg i=0->ev i=ev' i)->ok m s pg' ev'
 miss:∀{w:World} {s:τ} {F:Nat->Prop} {m:Nat} {pg:Nat->Nat} {ev:Nat->Bool} {id b:Nat},RR w s F->ok m s pg ev->m<90000->1<=id->id<4294967296->(∀i,i<n->¬pg i=id)->
  w.cell? ⟨b,0,none⟩=some (.int .u32 id)->b<w.heap.size->¬F b->Calls prog 67 #[rv,.pointer (some ⟨b,0,none⟩)] w fun e w'=>e=.returned (.tuple #[])∧Tld RR (P.miss s id) F w w'
 acc:∀{w:World} {s:τ} {F:Nat->Prop} {m:Nat} {pg:Nat->Nat} {ev:Nat->Bool} {id k b1 b2:Nat} {g:FuncId},RR w s F->ok m s pg ev->m<90000->1<=id->id<4294967296->k<n->(pg k=id∨pg k=0∧∀i,i<n->¬pg i=id)->
  w.cell? ⟨b1,0,none⟩=some (.int .i64 k)->w.cell? ⟨b2,0,none⟩=some (.int .u32 id)->b1<w.heap.size->b2<w.heap.size->¬F b1->¬F b2->
  (g=70∨g=75∨g=78)->
  Calls prog g #[rv,.pointer (some ⟨b1,0,none⟩),.pointer (some ⟨b2,0,none⟩)] w fun e w'=>e=.returned (.tuple #[])∧Tld RR (P.access s k id) F w w'
 setT:∀{w:World} {s:τ} {F:Nat->Prop} {m:Nat} {pg:Nat->Nat} {ev:Nat->Bool} {k b:Nat} {g:FuncId},RR w s F->ok m s pg ev->m<90000->k<n->¬pg k=0->
  w.cell? ⟨b,0,none⟩=some (.int .i64 k)->b<w.heap.size->¬F b->(g=71∨g=49)->
  Calls prog g #[rv,.pointer (some ⟨b,0,none⟩)] w fun e w'=>e=.returned (.tuple #[])∧Tld RR (P.set s k true) F w w'
 setF:∀{w:World} {s:τ} {F:Nat->Prop} {m:Nat} {pg:Nat->Nat} {ev:Nat->Bool} {k b:Nat},RR w s F->ok m s pg ev->m<90000->k<n->¬pg k=0->
  w.cell? ⟨b,0,none⟩=some (.int .i64 k)->b<w.heap.size->¬F b->
  Calls prog 79 #[rv,.pointer (some ⟨b,0,none⟩)] w fun e w'=>e=.returned (.tuple #[])∧Tld RR (P.set s k false) F w w'
 rem:∀{w:World} {s:τ} {F:Nat->Prop} {m:Nat} {pg:Nat->Nat} {ev:Nat->Bool} {k b:Nat} {g:FuncId},RR w s F->ok m s pg ev->m<90000->k<n->¬pg k=0->
  w.cell? ⟨b,0,none⟩=some (.int .i64 k)->b<w.heap.size->¬F b->(g=89∨g=80)->
  Calls prog g #[rv,.pointer (some ⟨b,0,none⟩)] w fun e w'=>e=.returned (.tuple #[])∧Tld RR (P.remove s k) F w w'
 ask:∀{w:World} {s:τ} {F:Nat->Prop} {m:Nat} {pg:Nat->Nat} {ev:Nat->Bool} {id:Nat},RR w s F->ok m s pg ev->m<90000->1<=id->id<4294967296->(∀i,i<n->¬pg i=id)->(∃x,Goer n pg ev x)->
  w.cell? ⟨pb,1,none⟩=some rv->pb<w.heap.size->¬F pb->Calls prog 88 #[.pointer (some ⟨pb,0,none⟩),.int .u32 id] w fun e w'=>
   (match P.victim s id with
    |none=>∃x:Int,e=.returned (.tuple #[.int .i64 x,.bool false])
    |some a=>e=.returned (.tuple #[.int .i64 a,.bool true]))∧Tld RR (P.aft s id) F w w'
 okMiss:∀{m:Nat} {s:τ} {pg:Nat->Nat} {ev:Nat->Bool} {id:Nat},ok m s pg ev->m<90000->1<=id->(∀i,i<n->¬pg i=id)->ok (m+1) (P.miss s id) pg ev
 okNew:∀{m:Nat} {s:τ} {pg:Nat->Nat} {ev:Nat->Bool} {id k:Nat},ok m s pg ev->m<90000->1<=id->id<4294967296->k<n->pg k=0->(∀i,i<n->¬pg i=id)->ok (m+1) (P.access s k id) (upd pg k id) (upd ev k false)
 okOld:∀{m:Nat} {s:τ} {pg:Nat->Nat} {ev:Nat->Bool} {id k:Nat},ok m s pg ev->m<90000->1<=id->k<n->pg k=id->ok (m+1) (P.access s k id) pg ev
 okSet:∀{m:Nat} {s:τ} {pg:Nat->Nat} {ev:Nat->Bool} {k:Nat} (b:Bool),ok m s pg ev->m<90000->k<n->¬pg k=0->ok (m+1) (P.set s k b) pg (upd ev k b)
 okRem:∀{m:Nat} {s:τ} {pg:Nat->Nat} {ev:Nat->Bool} {k:Nat},ok m s pg ev->m<90000->k<n->¬pg k=0->ok (m+1) (P.remove s k) (upd pg k 0) (upd ev k false)
 okYes:∀{m:Nat} {s:τ} {pg:Nat->Nat} {ev:Nat->Bool} {id x:Nat},ok m s pg ev->m<90000->1<=id->(∀i,i<n->¬pg i=id)->P.victim s id=some x->Goer n pg ev x->ok (m+1) (P.aft s id) (upd pg x 0) (upd ev x false)
 okNo:∀{m:Nat} {s:τ} {pg:Nat->Nat} {ev:Nat->Bool} {id:Nat},ok m s pg ev->m<90000->1<=id->(∀i,i<n->¬pg i=id)->(∀x,P.victim s id=some x->¬Goer n pg ev x)->ok (m+1) (P.aft s id) pg ev
end
section
open Go.Maps Go.Proofs.Tryz Go.RowKit
section
variable{w w':World}{p:PP}{f:Nat->FrS}{pl:Nat->Option Int}{E I:Nat->Bool}{sc m:Nat}
theorem find_none(H:MP w p f pl E I sc m){id:Nat}(hid:id<4294967296)(hp:pl id=none):Calls prog 30 #[p.ptr,.int .u32 id] w fun e w'=>e=.returned (.tuple #[.int .i64 (-1),.int .i64 3])∧w=w':=by
 have c3:w.cell? ⟨p.pb,3,none⟩=some (.map (some p.mb)):=H.ce 3 (by omega);have lk:=H.look hid;rw[hp]at lk;simp only[Option.getD_none,Option.isSome_none]at lk;have lb:=H.hd.lt;obtain⟨n,pb,db,fb,mb,rv,ev,eh,eL,iv,ih,iL⟩:=p;unfold PP.ptr
 dsimp only at*
 clear H hp;go_enter func30,ntmps30;go_wp2;go_returns;exact⟨rfl,rfl⟩
theorem find_some(H:MP w p f pl E I sc m){id:Nat}(hid:id<4294967296){x:Int}(hp:pl id=some x):Calls prog 30 #[p.ptr,.int .u32 id] w fun e w'=>e=.returned (.tuple #[.int .i64 x,.int .i64 0])∧w=w':=by
 have c3:w.cell? ⟨p.pb,3,none⟩=some (.map (some p.mb)):=H.ce 3 (by omega);have lk:=H.look hid;rw[hp]at lk;simp only[Option.getD_some,Option.isSome_some]at lk;have lb:=H.hd.lt;obtain⟨n,pb,db,fb,mb,rv,ev,eh,eL,iv,ih,iL⟩:=p;unfold PP.ptr
 dsimp only at*
 clear H hp;go_enter func30,ntmps30;go_wp2;go_returns;exact⟨rfl,rfl⟩
def HeldNo(n:Nat)(f:Nat->FrS)(pl:Nat->Option Int)(id e:Nat):Prop:=(pl id=none∧e=3)∨(pl id=some (-1)∧e=5)∨∃k:Nat,k<n∧pl id=some (k:Int)∧(f k).pins=0∧e=5
theorem held_no(H:MP w p f pl E I sc m){id e0:Nat}(hid:id<4294967296)(hp:HeldNo p.n f pl id e0):Calls prog 29 #[p.ptr,.int .u32 id] w fun e w'=>e=.returned (.tuple #[.int .i64 (-1),.int .i64 e0])∧w=w':=by
 have c2:w.cell? ⟨p.pb,2,none⟩=some (.slice (some ⟨p.fb,0,none⟩) p.n p.n):=H.ce 2 (by omega);have lb:=H.hd.lt;have lf:=H.fr.lt;have hn:=H.hn;rcases hp with⟨hp,rfl⟩|⟨hp,rfl⟩|⟨k,hk,hp,h0,rfl⟩
 .have HC:=Hd (find_none H hid hp)
  obtain⟨n,pb,db,fb,mb,rv,ev,eh,eL,iv,ih,iL⟩:=p;unfold PP.ptr at*
  dsimp only at*
  clear H hp;go_enter func29,ntmps29
  go_wp2_with fail
  refine HC.out.mono ?_;rintro e w1⟨rfl,rfl⟩;go_wp2;go_returns;exact⟨rfl,rfl⟩
 .have HC:=Hd (find_some H hid hp)
  obtain⟨n,pb,db,fb,mb,rv,ev,eh,eL,iv,ih,iL⟩:=p;unfold PP.ptr at*
  dsimp only at*
  clear H hp;go_enter func29,ntmps29
  go_wp2_with fail
  refine HC.out.mono ?_;rintro e w1⟨rfl,rfl⟩;go_wp2;go_returns;exact⟨rfl,rfl⟩
 .have HC:=Hd (find_some H hid hp)
  obtain⟨_,_,cp,_⟩:=H.cf hk;rw[h0]at cp;obtain⟨n,pb,db,fb,mb,rv,ev,eh,eL,iv,ih,iL⟩:=p;unfold PP.ptr at*
  dsimp only at*
  clear H hp h0;go_enter func29,ntmps29
  go_wp2_with fail
  refine HC.out.mono ?_;rintro e w1⟨rfl,rfl⟩;have hne:((k:Int)==(-1))=false:=by simp<;>omega
  go_wp2;go_returns;exact⟨rfl,rfl⟩
theorem held_yes(H:MP w p f pl E I sc m){id k:Nat}(hid:id<4294967296)(hk:k<p.n)(hp:pl id=some (k:Int))(h0:¬(f k).pins=0):Calls prog 29 #[p.ptr,.int .u32 id] w fun e w'=>e=.returned (.tuple #[.int .i64 k,.int .i64 0])∧w=w':=by
 have c2:w.cell? ⟨p.pb,2,none⟩=some (.slice (some ⟨p.fb,0,none⟩) p.n p.n):=H.ce 2 (by omega);have lb:=H.hd.lt;have lf:=H.fr.lt;have hn:=H.hn;have HC:=Hd (find_some H hid hp);obtain⟨_,_,cp,_⟩:=H.cf hk;have h0':(((f k).pins:Int)==0)=false:=by simp<;>exact h0
 generalize(f k).pins=q at*;obtain⟨n,pb,db,fb,mb,rv,ev,eh,eL,iv,ih,iL⟩:=p;unfold PP.ptr at*
 dsimp only at*
 clear H hp h0;go_enter func29,ntmps29
 go_wp2_with fail
 refine HC.out.mono ?_;rintro e w1⟨rfl,rfl⟩;have hne:((k:Int)==(-1))=false:=by simp<;>omega
 go_wp2;go_returns;exact⟨rfl,rfl⟩
theorem allp_calls(H:MP w p f pl E I sc m):Calls prog 42 #[p.ptr] w fun e w'=>e=.returned (.bool (decide (cntB E p.n=0∧cntB I p.n=0)))∧w=w':=by
 have HE:=Hd (mp_lenE H);have HI:=Hd (mp_lenI H);have lb:=H.hd.lt;obtain⟨n,pb,db,fb,mb,rv,ev,eh,eL,iv,ih,iL⟩:=p;unfold PP.ptr
 dsimp only at*
 generalize cntB E n=a at*;generalize cntB I n=b at*;clear H;go_enter func42,ntmps42
 go_wp2_with fail
 refine HE.out.mono ?_;rintro e w1⟨rfl,rfl⟩;by_cases h:a=0
 .subst h
  go_wp2_with fail
  refine HI.out.mono ?_;rintro e w1⟨rfl,rfl⟩;go_wp2;go_returns;refine⟨?_,rfl⟩;by_cases h2:b=0<;>simp[h2]
 .have hne:((a:Int)==0)=false:=by simp<;>exact h
  go_wp2;go_returns;refine⟨?_,rfl⟩;simp[h]
end
end
end Go.Proofs.YtipopinjppjnfaaGreatDoor
