/- Part 15. -/
import Derived.Test.YtoenclhimbpfeaaGreatDoorC13
namespace Go.Proofs.YtoenclhimbpfeaaGreatDoor
set_option linter.all false
set_option maxHeartbeats 16000000
set_option maxRecDepth 100000
section
open Go.RowKit
def SlZ(w:World)(v:Value)(l:List Int):Prop:=SlC w 1 v l.length (l.map fun x=>Value.int .i64 x)
def AR(lb:Nat)(w:World)(l:List Int)(F:Nat->Prop):Prop:=∃v,Blk w lb 1 (fun _=>v)∧SlZ w v l∧¬v.ownBlock=some lb∧∀i,F i↔i=lb∨v.ownBlock=some i
section
variable{w w':World}{lb:Nat}{l:List Int}{F:Nat->Prop}
end
end
section
open Go.Maps Go.RowKit
section
variable{p:PP}{q:Bool}{M:AM}{m:Nat}{w w0 w':World}
def Duo(R1 R2:World->(Nat->Prop)->Prop)(w0 w:World):Prop:=0<w0.heap.size∧∃F G,R1 w F∧R2 w G∧(∀i,F i->¬G i)∧(∀i,F i∨G i->w0.heap.size<=i)∧Fr NoF w0 w
structure Frm(R:World->(Nat->Prop)->Prop):Prop where
 lt:∀{w:World} {F:Nat->Prop},R w F->∀i,F i->i<w.heap.size
 fro:∀{w w':World} {F G:Nat->Prop},R w F->Fr G w w'->(∀i,F i->¬G i)->¬G 0->R w' F
end
end
end Go.Proofs.YtoenclhimbpfeaaGreatDoor
