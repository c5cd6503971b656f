/- Part 13. -/
import Derived.Test.YtoenclhimbpfeaaGreatDoorC12
import Derived.Laws.EntriesVeiled
import Derived.Deep.Cut
namespace Go.Proofs.YtoenclhimbpfeaaGreatDoor
set_option linter.all false
set_option maxHeartbeats 16000000
set_option maxRecDepth 100000
section
open Go.Maps Go.Proofs.Tryz Go.RowKit
section
variable{τ:Type}{P:Adv τ}{RR:World->τ->(Nat->Prop)->Prop}{ok:Nat->τ->(Nat->Nat)->(Nat->Bool)->Prop}{p:PP}(S:RepSys P RR p.pb p.rv p.n ok){w w':World}{m:Nat}{F:Nat->Prop}{X:PS τ}{T:PT τ}
include S
end
end
section
open Go.Maps Go.RowKit
structure AM where
 ids:List Nat
 val:Nat->Nat
 pin:Nat->Nat
 room:Nat
end
section
open Go.Maps Go.Proofs.Tryz Go.RowKit
def Good0{τ:Type}(P:Adv τ)(n:Nat)(ok:Nat->τ->(Nat->Nat)->(Nat->Bool)->Prop):Prop:=
 ∀(m:Nat) (s:τ) (pg:Nat->Nat) (ev:Nat->Bool) (id:Nat),ok m s pg ev->(∃x,Goer n pg ev x)->∃a,P.victim s id=some a∧Goer n pg ev a
section
variable{M:AM}{n id v:Nat}
end
section
variable{p:PP}{q:Bool}{M:AM}{m id v:Nat}{w w':World}{F:Nat->Prop}
end
end
section
open Go.Maps Go.RowKit
structure OpF where
 k:Int
 id:Nat
 v:Nat
end
end Go.Proofs.YtoenclhimbpfeaaGreatDoor
