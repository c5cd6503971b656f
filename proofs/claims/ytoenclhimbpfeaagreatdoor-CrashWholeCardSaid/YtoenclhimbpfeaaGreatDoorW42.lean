/- Part 42. -/
import Derived.Test.YtoenclhimbpfeaaGreatDoorW35
namespace Go.Proofs.YtoenclhimbpfeaaGreatDoor
set_option linter.all false
set_option maxHeartbeats 16000000
set_option maxRecDepth 100000
section
open Go.Proofs.Tryz Go.RowKit
def eV{τ:Type}(P:Pol τ):Adv τ where
 miss:=P.miss
 access:=P.access
 set:=P.set
 victim:=P.victim
 aft:=λs id=>if P.victim s id=none then s else P.gone s id
 remove:=P.remove
structure Clo(rv:Value)(b:Nat)(fM fA fS fV fR:FuncId):Prop where
 p1:∀{R:World->Prop} {w:World} {id c:Nat},Calls prog fM #[.pointer (some ⟨b,0,none⟩),.int .u32 id] w (λe w'=>e=.returned (.tuple #[])/\R w')->w.cell? ⟨c,0,none⟩=some (.int .u32 id)->c<w.heap.size->
  Calls prog 81 #[rv,.pointer (some ⟨c,0,none⟩)] w λe w'=>e=.returned (.tuple #[])/\R w'
 acc:∀{R:World->Prop} {w:World} {k id c1 c2:Nat} {g:FuncId},Calls prog fA #[.pointer (some ⟨b,0,none⟩),.int .i64 k,.int .u32 id] w (λe w'=>e=.returned (.tuple #[])/\R w')->w.cell? ⟨c1,0,none⟩=some (.int .i64 k)->w.cell? ⟨c2,0,none⟩=some (.int .u32 id)->c1<w.heap.size->c2<w.heap.size->
  (g=84\/g=89\/g=90)->
  Calls prog g #[rv,.pointer (some ⟨c1,0,none⟩),.pointer (some ⟨c2,0,none⟩)] w λe w'=>e=.returned (.tuple #[])/\R w'
 setT:∀{R:World->Prop} {w:World} {k c:Nat} {g:FuncId},Calls prog fS #[.pointer (some ⟨b,0,none⟩),.int .i64 k,.bool true] w (λe w'=>e=.returned (.tuple #[])/\R w')->w.cell? ⟨c,0,none⟩=some (.int .i64 k)->c<w.heap.size->
  (g=85\/g=70)->
  Calls prog g #[rv,.pointer (some ⟨c,0,none⟩)] w λe w'=>e=.returned (.tuple #[])/\R w'
 setF:∀{R:World->Prop} {w:World} {k c:Nat},Calls prog fS #[.pointer (some ⟨b,0,none⟩),.int .i64 k,.bool false] w (λe w'=>e=.returned (.tuple #[])/\R w')->w.cell? ⟨c,0,none⟩=some (.int .i64 k)->c<w.heap.size->
  Calls prog 91 #[rv,.pointer (some ⟨c,0,none⟩)] w λe w'=>e=.returned (.tuple #[])/\R w'
 rem:∀{R:World->Prop} {w:World} {k c:Nat} {g:FuncId},Calls prog fR #[.pointer (some ⟨b,0,none⟩),.int .i64 k] w (λe w'=>e=.returned (.tuple #[])/\R w')->w.cell? ⟨c,0,none⟩=some (.int .i64 k)->c<w.heap.size->
  (g=108\/g=92)->
  Calls prog g #[rv,.pointer (some ⟨c,0,none⟩)] w λe w'=>e=.returned (.tuple #[])/\R w'
 ask:∀{R:World->Prop} {w:World} {pb id:Nat} {x:Int} {q:Bool},Calls prog fV #[.pointer (some ⟨b,0,none⟩),.int .u32 id] w (λe w'=>e=.returned (.tuple #[.int .i64 x,.bool q])/\R w')->w.cell? ⟨pb,1,none⟩=some rv->pb<w.heap.size->
  Calls prog 107 #[.pointer (some ⟨pb,0,none⟩),.int .u32 id] w λe w'=>e=.returned (.tuple #[.int .i64 x,.bool q])/\R w'
structure kQ{τ:Type}(P:Pol τ)(pre:τ->Cl->Prop)(n:Nat)(ok:Nat->τ->(Nat->Nat)->(Nat->Bool)->Prop):Prop where
 more:∀{m k:Nat} {s:τ} {pg:Nat->Nat} {ev:Nat->Bool},ok m s pg ev->m<=k->ok k s pg ev
 same:∀{m:Nat} {s:τ} {pg pg':Nat->Nat} {ev ev':Nat->Bool},ok m s pg ev->(∀i,i<n->pg i=pg' i)->(∀i,i<n->¬pg i=0->ev i=ev' i)->ok m s pg' ev'
 pMiss:∀{m:Nat} {s:τ} {pg:Nat->Nat} {ev:Nat->Bool} {id:Nat},ok m s pg ev->m<90000->1<=id->id<4294967296->(∀i,i<n->¬pg i=id)->pre s (Aq id)
 pAcc:∀{m:Nat} {s:τ} {pg:Nat->Nat} {ev:Nat->Bool} {id k:Nat},ok m s pg ev->m<90000->1<=id->id<4294967296->k<n->(pg k=id\/pg k=0/\∀i,i<n->¬pg i=id)->pre s (Ea k id)
 pSet:∀{m:Nat} {s:τ} {pg:Nat->Nat} {ev:Nat->Bool} {k:Nat} (b:Bool),ok m s pg ev->m<90000->k<n->¬pg k=0->pre s (yC k b)
 pVic:∀{m:Nat} {s:τ} {pg:Nat->Nat} {ev:Nat->Bool} {id:Nat},ok m s pg ev->m<90000->1<=id->id<4294967296->(∀i,i<n->¬pg i=id)->pre s (DX id 0)
 pRem:∀{m:Nat} {s:τ} {pg:Nat->Nat} {ev:Nat->Bool} {k:Nat},ok m s pg ev->m<90000->k<n->¬pg k=0->pre s (DQ k)
 okMiss:∀{m:Nat} {s:τ} {pg:Nat->Nat} {ev:Nat->Bool} {id:Nat},ok m s pg ev->m<90000->1<=id->(∀i,i<n->¬pg i=id)->ok (m+1) (P.miss s id) pg ev
 okNew:∀{m:Nat} {s:τ} {pg:Nat->Nat} {ev:Nat->Bool} {id k:Nat},ok m s pg ev->m<90000->1<=id->id<4294967296->k<n->pg k=0->(∀i,i<n->¬pg i=id)->ok (m+1) (P.access s k id) (upd pg k id) (upd ev k false)
 okOld:∀{m:Nat} {s:τ} {pg:Nat->Nat} {ev:Nat->Bool} {id k:Nat},ok m s pg ev->m<90000->1<=id->k<n->pg k=id->ok (m+1) (P.access s k id) pg ev
 okSet:∀{m:Nat} {s:τ} {pg:Nat->Nat} {ev:Nat->Bool} {k:Nat} (b:Bool),ok m s pg ev->m<90000->k<n->¬pg k=0->ok (m+1) (P.set s k b) pg (upd ev k b)
 okRem:∀{m:Nat} {s:τ} {pg:Nat->Nat} {ev:Nat->Bool} {k:Nat},ok m s pg ev->m<90000->k<n->¬pg k=0->ok (m+1) (P.remove s k) (upd pg k 0) (upd ev k false)
 goer:∀{m:Nat} {s:τ} {pg:Nat->Nat} {ev:Nat->Bool} {id x:Nat},ok m s pg ev->P.victim s id=some x->bk n pg ev x
 some:∀{m:Nat} {s:τ} {pg:Nat->Nat} {ev:Nat->Bool} {id:Nat},ok m s pg ev->(∃x,bk n pg ev x)->¬P.victim s id=none
 okGone:∀{m:Nat} {s:τ} {pg:Nat->Nat} {ev:Nat->Bool} {id x:Nat},ok m s pg ev->m<90000->1<=id->(∀i,i<n->¬pg i=id)->P.victim s id=.some x->ok (m+1) (P.gone s id) (upd pg x 0) (upd ev x false)
theorem pR{τ:Type}{P:Pol τ}{CR:World->τ->(Nat->Prop)->Prop}{b pb n:Nat}{pre:τ->Cl->Prop}{fM fA fS fV fR:FuncId}{rv:Value}{ok:Nat->τ->(Nat->Nat)->(Nat->Bool)->Prop}(C:ya P CR b pre fM fA fS fV fR)(K:Clo rv b fM fA fS fV fR)(O:kQ P pre n ok):aJ (eV P) CR pb rv n ok where
 fr:=C.fr
 lt:=C.lt
 more:=O.more
 same:=O.same
 miss:=λh ho hm h1 h2 hn q2 q4 _=>K.p1 (C.miss (c:=Aq _) h (O.pMiss ho hm h1 h2 hn) rfl) q2 q4
 acc:=λh ho hm h1 h2 hk hx q1 q2 q3 q4 _ _ hg=>K.acc (C.access (c:=Ea _ _) h (O.pAcc ho hm h1 h2 hk hx) rfl) q1 q2 q3 q4 hg
 setT:=λh ho hm hk hx q1 q3 _ hg=>K.setT (C.set (c:=yC _ true) h (O.pSet true ho hm hk hx) rfl) q1 q3 hg
 setF:=λh ho hm hk hx q1 q3 _=>K.setF (C.set (c:=yC _ false) h (O.pSet false ho hm hk hx) rfl) q1 q3
 rem:=λh ho hm hk hx q1 q3 _ hg=>K.rem (C.remove (c:=DQ _) h (O.pRem ho hm hk hx) rfl) q1 q3 hg
 ask:=λ{w s F m pg ev id} h ho hm h1 h2 hn hx q1 q2 _=>by
  have hp:=O.pVic ho hm h1 h2 hn
  show Calls _ _ _ _ λe w'=>(match P.victim s id with
    |none=>∃x:Int,e=.returned (.tuple #[.int .i64 x,.bool false])
    |some a=>e=.returned (.tuple #[.int .i64 a,.bool true]))/\Tld CR (if P.victim s id=none then s else P.gone s id) F w w'
  cases e:P.victim s id with
  |none=>exact(O.some ho hx e).elim
  |some a=>
   rw[if_neg (by simp)];exact K.ask (C.victimYes (c:=DX id 0) h hp rfl e) q1 q2
 okMiss:=O.okMiss
 okNew:=O.okNew
 okOld:=O.okOld
 okSet:=O.okSet
 okRem:=O.okRem
 okYes:=λ{m s pg ev id x} ho hm h1 hn hv hg=>by
  show ok (m+1) (if P.victim s id=none then s else P.gone s id) _ _
  have hv:P.victim s id=some x:=hv;rw[hv,if_neg (by simp)];exact O.okGone ho hm h1 hn hv
 okNo:=λ{m s pg ev id} ho hm h1 hn hv=>by
  show ok (m+1) (if P.victim s id=none then s else P.gone s id) _ _
  cases e:P.victim s id with
  |none=>rw[if_pos rfl];exact O.more ho (Nat.le_succ _)
  |some x=>exact(hv x e (O.goer ho e)).elim
end
end Go.Proofs.YtoenclhimbpfeaaGreatDoor
