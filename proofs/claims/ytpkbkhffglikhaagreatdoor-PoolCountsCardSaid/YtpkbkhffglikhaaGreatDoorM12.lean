/- Part 12. -/
import Derived.Test.YtpkbkhffglikhaaGreatDoorM02
namespace Go.Proofs.YtpkbkhffglikhaaGreatDoor
set_option linter.all false
set_option maxHeartbeats 16000000
set_option maxRecDepth 100000
section
open Go.RowKit
structure Cl where
 kind:Nat
 frame:Nat
 page:Nat
 on:Bool
 want:Int
 size:Nat
 ghosts:List Nat
structure Pol(σ:Type) where
 miss:σ->Nat->σ
 access:σ->Nat->Nat->σ
 set:σ->Nat->Bool->σ
 victim:σ->Nat->Option Nat
 gone:σ->Nat->σ
 remove:σ->Nat->σ
 size:σ->Nat
 ghosts:σ->List Nat
section
variable{σ:Type}(P:Pol σ)
def clMiss(id:Nat):Cl:=⟨0,0,id,false,0,0,[]⟩
def clAcc(a id:Nat):Cl:=⟨1,a,id,false,0,0,[]⟩
def clSet(a:Nat)(v:Bool):Cl:=⟨2,a,0,v,0,0,[]⟩
def clVic(id:Nat)(w:Int):Cl:=⟨3,0,id,false,w,0,[]⟩
def clRem(a:Nat):Cl:=⟨4,a,0,false,0,0,[]⟩
end
end
section
open Go.Proofs.Tryz Go.RowKit
structure CodG{τ:Type}(P:Pol τ)(CR:World->τ->(Nat->Prop)->Prop)(b:Nat)(pre:τ->Cl->Prop)(fM fA fS fV fR:FuncId):Prop where
 fr:∀{w w':World} {s:τ} {F G:Nat->Prop},CR w s F->Fr G w w'->(∀i,F i->¬G i)->CR w' s F
 lt:∀{w:World} {s:τ} {F:Nat->Prop},CR w s F->∀i,F i->i<w.heap.size
 miss:∀{w:World} {s:τ} {F:Nat->Prop} {c:Cl},CR w s F->pre s c->c.kind=0->
  Calls prog fM #[.pointer (some ⟨b,0,none⟩),.int .u32 c.page] w λe w'=>e=.returned (.tuple #[])/\∃F',CR w' (P.miss s c.page) F'/\Fr F w w'/\∀i,F' i->F i\/w.heap.size<=i
 access:∀{w:World} {s:τ} {F:Nat->Prop} {c:Cl},CR w s F->pre s c->c.kind=1->
  Calls prog fA #[.pointer (some ⟨b,0,none⟩),.int .i64 c.frame,.int .u32 c.page] w λe w'=>e=.returned (.tuple #[])/\∃F',CR w' (P.access s c.frame c.page) F'/\Fr F w w'/\∀i,F' i->F i\/w.heap.size<=i
 set:∀{w:World} {s:τ} {F:Nat->Prop} {c:Cl},CR w s F->pre s c->c.kind=2->
  Calls prog fS #[.pointer (some ⟨b,0,none⟩),.int .i64 c.frame,.bool c.on] w λe w'=>e=.returned (.tuple #[])/\∃F',CR w' (P.set s c.frame c.on) F'/\Fr F w w'/\∀i,F' i->F i\/w.heap.size<=i
 victimNo:∀{w:World} {s:τ} {F:Nat->Prop} {c:Cl},CR w s F->pre s c->c.kind=3->P.victim s c.page=none->
  Calls prog fV #[.pointer (some ⟨b,0,none⟩),.int .u32 c.page] w λe w'=>e=.returned (.tuple #[.int .i64 0,.bool false])/\∃F',CR w' s F'/\Fr F w w'/\∀i,F' i->F i\/w.heap.size<=i
 victimYes:∀{w:World} {s:τ} {F:Nat->Prop} {c:Cl} {a:Nat},CR w s F->pre s c->c.kind=3->P.victim s c.page=some a->
  Calls prog fV #[.pointer (some ⟨b,0,none⟩),.int .u32 c.page] w λe w'=>e=.returned (.tuple #[.int .i64 a,.bool true])/\∃F',CR w' (P.gone s c.page) F'/\Fr F w w'/\∀i,F' i->F i\/w.heap.size<=i
 remove:∀{w:World} {s:τ} {F:Nat->Prop} {c:Cl},CR w s F->pre s c->c.kind=4->
  Calls prog fR #[.pointer (some ⟨b,0,none⟩),.int .i64 c.frame] w λe w'=>e=.returned (.tuple #[])/\∃F',CR w' (P.remove s c.frame) F'/\Fr F w w'/\∀i,F' i->F i\/w.heap.size<=i
end
end Go.Proofs.YtpkbkhffglikhaaGreatDoor
