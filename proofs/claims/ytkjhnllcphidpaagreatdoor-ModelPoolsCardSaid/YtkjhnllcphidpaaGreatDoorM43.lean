/- Part 43. -/
import Derived.Test.YtkjhnllcphidpaaGreatDoorM26
import Derived.Laws.EntriesVeiled
import Derived.Deep.Cut
namespace Go.Proofs.YtkjhnllcphidpaaGreatDoor
set_option linter.all false
set_option maxHeartbeats 16000000
set_option maxRecDepth 100000
section
open Go.Maps Go.RowKit
def nxV(b:Nat)(s:Nat):Value:=match s with
 |1=>.func (.func 130) #[.pointer (some ⟨b,0,none⟩)] #[]
 |2=>.func (.func 143) #[.pointer (some ⟨b,0,none⟩)] #[]
 |3=>.func (.func 150) #[.pointer (some ⟨b,0,none⟩)] #[]
 |_=>.nilFunc
def clC(i:Nat)(ov:Value)(d mb b s:Nat):Nat->Value:=λj=>match j with|0=>.int .i64 i|1=>ov|2=>.int .i64 d|3=>.map (some mb)|4=>nxV b s|_=>.nilFunc
def go1(d n:Nat):Nat:=if d<n then 1 else 0
def frC(pv cv:Value)(la:Option Nat)(lv:Value):Nat->Value:=λj=>match j with|0=>pv|1=>cv|2=>.pointer (la.map λb=>⟨b,0,none⟩)|3=>lv|_=>.nilFunc
structure OpF where
 k:Int
 id:Nat
 v:Nat
def OpF.ok(o:OpF):Prop:=o.id<4294967296/\o.v<18446744073709551616/\-9223372036854775808<=o.k/\o.k<=9223372036854775807
def OpF.val(o:OpF):Value:=.agg #[.int .i64 o.k,.int .u32 o.id,.int .u64 o.v]
def Fy(pin:Nat->Nat):Int->Option Value:=λx=>if x<0\/pin x.toNat=0 then none else some (.int .i64 (pin x.toNat:Nat))
end
section
open Go.Maps Go.Proofs.Tryz Go.RowKit
structure AnF where
 e:Nat
 id:Nat
 v:Nat
def AnF.val(a:AnF):Value:=.agg #[.int .i64 (a.e:Nat),.int .u32 (a.id:Nat),.int .u64 (a.v:Nat)]
abbrev xZ(w:World)(mb cnt:Nat)(m:Int->Option Value):Prop:=MpV prog 42 .u32 (.int .i64 0) w mb cnt m
end
end Go.Proofs.YtkjhnllcphidpaaGreatDoor
