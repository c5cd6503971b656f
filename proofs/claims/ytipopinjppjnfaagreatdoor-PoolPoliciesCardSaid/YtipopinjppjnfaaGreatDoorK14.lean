/- Part 14. -/
import Derived.Test.YtipopinjppjnfaaGreatDoorK13
namespace Go.Proofs.YtipopinjppjnfaaGreatDoor
set_option linter.all false
set_option maxHeartbeats 16000000
set_option maxRecDepth 100000
section
open Go.Maps Go.Proofs.Tryz Go.RowKit
section
variable{τ:Type}{P:Adv τ}{RR:World->τ->(Nat->Prop)->Prop}{ok:Nat->τ->(Nat->Nat)->(Nat->Bool)->Prop}{p:PP}{w w':World}{m:Nat}{F:Nat->Prop}{X:PS τ}{T:PT τ}
theorem hs_calls(H:PW RR ok p X m w F){id:Nat}(hu:id<4294967296):Calls prog 10 #[p.ptr,.int .u32 id] w fun e w'=>e=.returned (.bool (X.D.has id))∧w=w':=by
 cases hh:X.D.has id with
 |false=>
  have HA:=Hd (find_none H.1.me hu (plO_none hh));unfold PP.ptr at*;clear H hh hu;go_enter func10,ntmps10
  go_wp2_with fail
  refine HA.out.mono ?_;rintro e w1⟨rfl,rfl⟩;go_wp2;go_returns;exact⟨rfl,rfl⟩
 |true=>
  have hs:∃x,plO p.n X.f X.D id=some x:=by unfold plO;rw[if_pos hh];exact⟨_,rfl⟩
  obtain⟨x,hx⟩:=hs;have HA:=Hd (find_some H.1.me hu hx);unfold PP.ptr at*;clear H hh hu hx;go_enter func10,ntmps10
  go_wp2_with fail
  refine HA.out.mono ?_;rintro e w1⟨rfl,rfl⟩;go_wp2;go_returns;exact⟨rfl,rfl⟩
theorem fr_calls(H:PW RR ok p X m w F){id:Nat}(hu:id<4294967296):Calls prog 15 #[p.ptr,.int .u32 id] w fun e w'=>e=.returned (.int .i64 (X.frame p.n id))∧w=w':=by
 unfold PS.frame
 cases hx:plO p.n X.f X.D id with
 |none=>
  have HA:=Hd (find_none H.1.me hu hx);unfold PP.ptr at*;clear H hu hx;go_enter func15,ntmps15
  go_wp2_with fail
  refine HA.out.mono ?_;rintro e w1⟨rfl,rfl⟩;go_wp2;go_returns;exact⟨rfl,rfl⟩
 |some x=>
  have HA:=Hd (find_some H.1.me hu hx);unfold PP.ptr at*;clear H hu hx;go_enter func15,ntmps15
  go_wp2_with fail
  refine HA.out.mono ?_;rintro e w1⟨rfl,rfl⟩;go_wp2;go_returns;exact⟨rfl,rfl⟩
theorem sc_calls(H:PW RR ok p X m w F):Calls prog 8 #[p.ptr] w fun e w'=>e=.returned (.int .i64 X.sc)∧w=w':=by
 have c:=H.1.me.ce 10 (by omega);rw[show pH p (cntB (CT p.n X).E p.n) (cntB (CT p.n X).I p.n) (CT p.n X).sc 10=.int .i64 X.sc from rfl]at c;have lb:=H.1.me.hd.lt;unfold PP.ptr;clear H;go_enter func8,ntmps8;go_wp2;go_returns;exact⟨rfl,rfl⟩
theorem pi_calls(H:PW RR ok p X m w F){id:Nat}(hu:id<4294967296):Calls prog 9 #[p.ptr,.int .u32 id] w fun e w'=>e=.returned (.int .i64 (X.pins p.n id))∧w=w':=by
 unfold PS.pins;rcases held_case H.2.1 id with⟨h0,h1,h2,h3,h4,h5,h6,h7⟩|⟨h0,h1⟩
 .rw[if_pos h0]
  generalize(X.held p.n id).1=k at*;have HA:=Hd (held_yes H.1.me hu h1 h2 h3);obtain⟨_,_,c,_⟩:=H.1.me.cf h1;rw[show(CT p.n X).f=X.f from rfl]at c;have c2:w.cell? ⟨p.pb,2,none⟩=some (.slice (some ⟨p.fb,0,none⟩) p.n p.n):=H.1.me.ce 2 (by omega);have hn:=H.1.me.hn;have lb:=H.1.me.hd.lt;have lf:=H.1.me.fr.lt;generalize(X.f k).pins=q at*;unfold PP.ptr at*;clear H hu h0 h2 h3 h4 h5 h6 h7;go_enter func9,ntmps9
  go_wp2_with fail
  refine HA.out.mono ?_;rintro e w1⟨rfl,rfl⟩;go_wp2;go_returns;exact⟨rfl,rfl⟩
 .rw[if_neg h0]
  have HA:=Hd (held_no H.1.me hu h1);have hne:((((X.held p.n id).2:Nat):Int)==0)=false:=by simp<;>exact h0
  generalize(X.held p.n id).2=e0 at*;unfold PP.ptr at*;clear H hu h0 h1;go_enter func9,ntmps9
  go_wp2_with fail
  refine HA.out.mono ?_;rintro e w1⟨rfl,rfl⟩;go_wp2;go_returns;exact⟨rfl,rfl⟩
theorem rd_calls(H:PW RR ok p X m w F){id:Nat}(hu:id<4294967296):Calls prog 25 #[p.ptr,.int .u32 id] w fun e w'=>e=.returned (.tuple #[.int .u64 (X.read p.n id).1,.int .i64 (X.read p.n id).2])∧w=w':=by
 unfold PS.read;rcases held_case H.2.1 id with⟨h0,h1,h2,h3,h4,h5,h6,h7⟩|⟨h0,h1⟩
 .rw[if_pos h0]
  generalize(X.held p.n id).1=k at*;have HA:=Hd (held_yes H.1.me hu h1 h2 h3);obtain⟨_,c,_,_⟩:=H.1.me.cf h1;rw[show(CT p.n X).f=X.f from rfl]at c;have c2:w.cell? ⟨p.pb,2,none⟩=some (.slice (some ⟨p.fb,0,none⟩) p.n p.n):=H.1.me.ce 2 (by omega);have hn:=H.1.me.hn;have lb:=H.1.me.hd.lt;have lf:=H.1.me.fr.lt;generalize(X.f k).val=q at*;unfold PP.ptr at*;clear H hu h0 h2 h3 h4 h5 h6 h7;go_enter func25,ntmps25
  go_wp2_with fail
  refine HA.out.mono ?_;rintro e w1⟨rfl,rfl⟩;go_wp2;go_returns;exact⟨rfl,rfl⟩
 .rw[if_neg h0]
  have HA:=Hd (held_no H.1.me hu h1);have hne:((((X.held p.n id).2:Nat):Int)==0)=false:=by simp<;>exact h0
  generalize(X.held p.n id).2=e0 at*;unfold PP.ptr at*;clear H hu h0 h1;go_enter func25,ntmps25
  go_wp2_with fail
  refine HA.out.mono ?_;rintro e w1⟨rfl,rfl⟩;go_wp2;go_returns;exact⟨rfl,rfl⟩
end
end
section
open Go.RowKit
structure Cl where
 kind:Nat
 frame:Nat
 page:Nat
 on:Bool
 want:Int
 size:Nat
 ghosts:List Nat
structure Pol(σ:Type) where
 miss:σ->Nat->σ
 access:σ->Nat->Nat->σ
 set:σ->Nat->Bool->σ
 victim:σ->Nat->Option Nat
 gone:σ->Nat->σ
 remove:σ->Nat->σ
 size:σ->Nat
 ghosts:σ->List Nat
section
variable{σ:Type}(P:Pol σ)
def clMiss(id:Nat):Cl:=⟨0,0,id,false,0,0,[]⟩
def clAcc(a id:Nat):Cl:=⟨1,a,id,false,0,0,[]⟩
def clSet(a:Nat)(v:Bool):Cl:=⟨2,a,0,v,0,0,[]⟩
def clVic(id:Nat)(w:Int):Cl:=⟨3,0,id,false,w,0,[]⟩
def clRem(a:Nat):Cl:=⟨4,a,0,false,0,0,[]⟩
end
end
section
open Go.Proofs.Tryz Go.RowKit
structure CodG{τ:Type}(P:Pol τ)(CR:World->τ->(Nat->Prop)->Prop)(b:Nat)(pre:τ->Cl->Prop)(fM fA fS fV fR:FuncId):Prop where
 fr:∀{w w':World} {s:τ} {F G:Nat->Prop},CR w s F->Fr G w w'->(∀i,F i->¬G i)->CR w' s F
 lt:∀{w:World} {s:τ} {F:Nat->Prop},CR w s F->∀i,F i->i<w.heap.size
 miss:∀{w:World} {s:τ} {F:Nat->Prop} {c:Cl},CR w s F->pre s c->c.kind=0->
  Calls prog fM #[.pointer (some ⟨b,0,none⟩),.int .u32 c.page] w fun e w'=>e=.returned (.tuple #[])∧∃F',CR w' (P.miss s c.page) F'∧Fr F w w'∧∀i,F' i->F i∨w.heap.size<=i
 access:∀{w:World} {s:τ} {F:Nat->Prop} {c:Cl},CR w s F->pre s c->c.kind=1->
  Calls prog fA #[.pointer (some ⟨b,0,none⟩),.int .i64 c.frame,.int .u32 c.page] w fun e w'=>e=.returned (.tuple #[])∧∃F',CR w' (P.access s c.frame c.page) F'∧Fr F w w'∧∀i,F' i->F i∨w.heap.size<=i
 set:∀{w:World} {s:τ} {F:Nat->Prop} {c:Cl},CR w s F->pre s c->c.kind=2->
  Calls prog fS #[.pointer (some ⟨b,0,none⟩),.int .i64 c.frame,.bool c.on] w fun e w'=>e=.returned (.tuple #[])∧∃F',CR w' (P.set s c.frame c.on) F'∧Fr F w w'∧∀i,F' i->F i∨w.heap.size<=i
 victimNo:∀{w:World} {s:τ} {F:Nat->Prop} {c:Cl},CR w s F->pre s c->c.kind=3->P.victim s c.page=none->
  Calls prog fV #[.pointer (some ⟨b,0,none⟩),.int .u32 c.page] w fun e w'=>e=.returned (.tuple #[.int .i64 0,.bool false])∧∃F',CR w' s F'∧Fr F w w'∧∀i,F' i->F i∨w.heap.size<=i
 victimYes:∀{w:World} {s:τ} {F:Nat->Prop} {c:Cl} {a:Nat},CR w s F->pre s c->c.kind=3->P.victim s c.page=some a->
  Calls prog fV #[.pointer (some ⟨b,0,none⟩),.int .u32 c.page] w fun e w'=>e=.returned (.tuple #[.int .i64 a,.bool true])∧∃F',CR w' (P.gone s c.page) F'∧Fr F w w'∧∀i,F' i->F i∨w.heap.size<=i
 remove:∀{w:World} {s:τ} {F:Nat->Prop} {c:Cl},CR w s F->pre s c->c.kind=4->
  Calls prog fR #[.pointer (some ⟨b,0,none⟩),.int .i64 c.frame] w fun e w'=>e=.returned (.tuple #[])∧∃F',CR w' (P.remove s c.frame) F'∧Fr F w w'∧∀i,F' i->F i∨w.heap.size<=i
def advOf{τ:Type}(P:Pol τ):Adv τ where
 miss:=P.miss
 access:=P.access
 set:=P.set
 victim:=P.victim
 aft:=fun s id=>if P.victim s id=none then s else P.gone s id
 remove:=P.remove
structure Clo(rv:Value)(b:Nat)(fM fA fS fV fR:FuncId):Prop where
 p1:∀{R:World->Prop} {w:World} {id c:Nat},Calls prog fM #[.pointer (some ⟨b,0,none⟩),.int .u32 id] w (fun e w'=>e=.returned (.tuple #[])∧R w')->w.cell? ⟨c,0,none⟩=some (.int .u32 id)->c<w.heap.size->
  Calls prog 67 #[rv,.pointer (some ⟨c,0,none⟩)] w fun e w'=>e=.returned (.tuple #[])∧R w'
 acc:∀{R:World->Prop} {w:World} {k id c1 c2:Nat} {g:FuncId},Calls prog fA #[.pointer (some ⟨b,0,none⟩),.int .i64 k,.int .u32 id] w (fun e w'=>e=.returned (.tuple #[])∧R w')->w.cell? ⟨c1,0,none⟩=some (.int .i64 k)->w.cell? ⟨c2,0,none⟩=some (.int .u32 id)->c1<w.heap.size->c2<w.heap.size->
  (g=70∨g=75∨g=78)->
  Calls prog g #[rv,.pointer (some ⟨c1,0,none⟩),.pointer (some ⟨c2,0,none⟩)] w fun e w'=>e=.returned (.tuple #[])∧R w'
 setT:∀{R:World->Prop} {w:World} {k c:Nat} {g:FuncId},Calls prog fS #[.pointer (some ⟨b,0,none⟩),.int .i64 k,.bool true] w (fun e w'=>e=.returned (.tuple #[])∧R w')->w.cell? ⟨c,0,none⟩=some (.int .i64 k)->c<w.heap.size->
  (g=71∨g=49)->
  Calls prog g #[rv,.pointer (some ⟨c,0,none⟩)] w fun e w'=>e=.returned (.tuple #[])∧R w'
 setF:∀{R:World->Prop} {w:World} {k c:Nat},Calls prog fS #[.pointer (some ⟨b,0,none⟩),.int .i64 k,.bool false] w (fun e w'=>e=.returned (.tuple #[])∧R w')->w.cell? ⟨c,0,none⟩=some (.int .i64 k)->c<w.heap.size->
  Calls prog 79 #[rv,.pointer (some ⟨c,0,none⟩)] w fun e w'=>e=.returned (.tuple #[])∧R w'
 rem:∀{R:World->Prop} {w:World} {k c:Nat} {g:FuncId},Calls prog fR #[.pointer (some ⟨b,0,none⟩),.int .i64 k] w (fun e w'=>e=.returned (.tuple #[])∧R w')->w.cell? ⟨c,0,none⟩=some (.int .i64 k)->c<w.heap.size->
  (g=89∨g=80)->
  Calls prog g #[rv,.pointer (some ⟨c,0,none⟩)] w fun e w'=>e=.returned (.tuple #[])∧R w'
 ask:∀{R:World->Prop} {w:World} {pb id:Nat} {x:Int} {q:Bool},Calls prog fV #[.pointer (some ⟨b,0,none⟩),.int .u32 id] w (fun e w'=>e=.returned (.tuple #[.int .i64 x,.bool q])∧R w')->w.cell? ⟨pb,1,none⟩=some rv->pb<w.heap.size->
  Calls prog 88 #[.pointer (some ⟨pb,0,none⟩),.int .u32 id] w fun e w'=>e=.returned (.tuple #[.int .i64 x,.bool q])∧R w'
structure OkSys{τ:Type}(P:Pol τ)(pre:τ->Cl->Prop)(n:Nat)(ok:Nat->τ->(Nat->Nat)->(Nat->Bool)->Prop):Prop where
 more:∀{m k:Nat} {s:τ} {pg:Nat->Nat} {ev:Nat->Bool},ok m s pg ev->m<=k->ok k s pg ev
 same:∀{m:Nat} {s:τ} {pg pg':Nat->Nat} {ev ev':Nat->Bool},ok m s pg ev->(∀i,i<n->pg i=pg' i)->(∀i,i<n->¬pg i=0->ev i=ev' i)->ok m s pg' ev'
 pMiss:∀{m:Nat} {s:τ} {pg:Nat->Nat} {ev:Nat->Bool} {id:Nat},ok m s pg ev->m<90000->1<=id->id<4294967296->(∀i,i<n->¬pg i=id)->pre s (clMiss id)
 pAcc:∀{m:Nat} {s:τ} {pg:Nat->Nat} {ev:Nat->Bool} {id k:Nat},ok m s pg ev->m<90000->1<=id->id<4294967296->k<n->(pg k=id∨pg k=0∧∀i,i<n->¬pg i=id)->pre s (clAcc k id)
 pSet:∀{m:Nat} {s:τ} {pg:Nat->Nat} {ev:Nat->Bool} {k:Nat} (b:Bool),ok m s pg ev->m<90000->k<n->¬pg k=0->pre s (clSet k b)
 pVic:∀{m:Nat} {s:τ} {pg:Nat->Nat} {ev:Nat->Bool} {id:Nat},ok m s pg ev->m<90000->1<=id->id<4294967296->(∀i,i<n->¬pg i=id)->pre s (clVic id 0)
 pRem:∀{m:Nat} {s:τ} {pg:Nat->Nat} {ev:Nat->Bool} {k:Nat},ok m s pg ev->m<90000->k<n->¬pg k=0->pre s (clRem k)
 okMiss:∀{m:Nat} {s:τ} {pg:Nat->Nat} {ev:Nat->Bool} {id:Nat},ok m s pg ev->m<90000->1<=id->(∀i,i<n->¬pg i=id)->ok (m+1) (P.miss s id) pg ev
 okNew:∀{m:Nat} {s:τ} {pg:Nat->Nat} {ev:Nat->Bool} {id k:Nat},ok m s pg ev->m<90000->1<=id->id<4294967296->k<n->pg k=0->(∀i,i<n->¬pg i=id)->ok (m+1) (P.access s k id) (upd pg k id) (upd ev k false)
 okOld:∀{m:Nat} {s:τ} {pg:Nat->Nat} {ev:Nat->Bool} {id k:Nat},ok m s pg ev->m<90000->1<=id->k<n->pg k=id->ok (m+1) (P.access s k id) pg ev
 okSet:∀{m:Nat} {s:τ} {pg:Nat->Nat} {ev:Nat->Bool} {k:Nat} (b:Bool),ok m s pg ev->m<90000->k<n->¬pg k=0->ok (m+1) (P.set s k b) pg (upd ev k b)
 okRem:∀{m:Nat} {s:τ} {pg:Nat->Nat} {ev:Nat->Bool} {k:Nat},ok m s pg ev->m<90000->k<n->¬pg k=0->ok (m+1) (P.remove s k) (upd pg k 0) (upd ev k false)
 goer:∀{m:Nat} {s:τ} {pg:Nat->Nat} {ev:Nat->Bool} {id x:Nat},ok m s pg ev->P.victim s id=some x->Goer n pg ev x
 some:∀{m:Nat} {s:τ} {pg:Nat->Nat} {ev:Nat->Bool} {id:Nat},ok m s pg ev->(∃x,Goer n pg ev x)->¬P.victim s id=none
 okGone:∀{m:Nat} {s:τ} {pg:Nat->Nat} {ev:Nat->Bool} {id x:Nat},ok m s pg ev->m<90000->1<=id->(∀i,i<n->¬pg i=id)->P.victim s id=.some x->ok (m+1) (P.gone s id) (upd pg x 0) (upd ev x false)
theorem repOf{τ:Type}{P:Pol τ}{CR:World->τ->(Nat->Prop)->Prop}{b pb n:Nat}{pre:τ->Cl->Prop}{fM fA fS fV fR:FuncId}{rv:Value}{ok:Nat->τ->(Nat->Nat)->(Nat->Bool)->Prop}(C:CodG P CR b pre fM fA fS fV fR)(K:Clo rv b fM fA fS fV fR)(O:OkSys P pre n ok):RepSys (advOf P) CR pb rv n ok where
 fr:=C.fr
 lt:=C.lt
 more:=O.more
 same:=O.same
 miss:=fun h ho hm h1 h2 hn q2 q4 _=>K.p1 (C.miss (c:=clMiss _) h (O.pMiss ho hm h1 h2 hn) rfl) q2 q4
 acc:=fun h ho hm h1 h2 hk hx q1 q2 q3 q4 _ _ hg=>K.acc (C.access (c:=clAcc _ _) h (O.pAcc ho hm h1 h2 hk hx) rfl) q1 q2 q3 q4 hg
 setT:=fun h ho hm hk hx q1 q3 _ hg=>K.setT (C.set (c:=clSet _ true) h (O.pSet true ho hm hk hx) rfl) q1 q3 hg
 setF:=fun h ho hm hk hx q1 q3 _=>K.setF (C.set (c:=clSet _ false) h (O.pSet false ho hm hk hx) rfl) q1 q3
 rem:=fun h ho hm hk hx q1 q3 _ hg=>K.rem (C.remove (c:=clRem _) h (O.pRem ho hm hk hx) rfl) q1 q3 hg
 ask:=fun{w s F m pg ev id} h ho hm h1 h2 hn hx q1 q2 _=>by
  have hp:=O.pVic ho hm h1 h2 hn
  show Calls _ _ _ _ fun e w'=>(match P.victim s id with
    |none=>∃x:Int,e=.returned (.tuple #[.int .i64 x,.bool false])
    |some a=>e=.returned (.tuple #[.int .i64 a,.bool true]))∧Tld CR (if P.victim s id=none then s else P.gone s id) F w w'
  cases e:P.victim s id with
  |none=>exact(O.some ho hx e).elim
  |some a=>
   rw[if_neg (by simp)];exact K.ask (C.victimYes (c:=clVic id 0) h hp rfl e) q1 q2
 okMiss:=O.okMiss
 okNew:=O.okNew
 okOld:=O.okOld
 okSet:=O.okSet
 okRem:=O.okRem
 okYes:=fun{m s pg ev id x} ho hm h1 hn hv hg=>by
  show ok (m+1) (if P.victim s id=none then s else P.gone s id) _ _
  have hv:P.victim s id=some x:=hv;rw[hv,if_neg (by simp)];exact O.okGone ho hm h1 hn hv
 okNo:=fun{m s pg ev id} ho hm h1 hn hv=>by
  show ok (m+1) (if P.victim s id=none then s else P.gone s id) _ _
  cases e:P.victim s id with
  |none=>rw[if_pos rfl];exact O.more ho (Nat.le_succ _)
  |some x=>exact(hv x e (O.goer ho e)).elim
end
end Go.Proofs.YtipopinjppjnfaaGreatDoor
