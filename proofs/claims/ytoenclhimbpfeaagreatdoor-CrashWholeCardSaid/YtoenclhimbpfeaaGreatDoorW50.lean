/- Part 50. -/
import Derived.Test.YtoenclhimbpfeaaGreatDoorW29
namespace Go.Proofs.YtoenclhimbpfeaaGreatDoor
set_option linter.all false
set_option maxHeartbeats 16000000
set_option maxRecDepth 100000
section
open Go.Maps Go.RowKit
def xM(x:Nat):Prop:=x<4294967296
def okV(x:Nat):Prop:=x<18446744073709551616
section
variable{w w':World}{b n room pin len mb L:Nat}{pg:Nat->Option (Nat×Nat)}{v:Value}{h:Nat->Nat}
theorem dN(w:World)(u1 u2 u3:Value){t:TypeId}:Blk (w.alloc (.cells #[u1,u2,u3] t)) w.heap.size 3 (λi=>if i=0 then u1 else if i=1 then u2 else u3):=
 Blk.new _ _ _ _ _ _ rfl rfl (λi hi=>by
  match i,hi with
  |0,_=>rfl
  |1,_=>rfl
  |2,_=>rfl)
end
end
end Go.Proofs.YtoenclhimbpfeaaGreatDoor
