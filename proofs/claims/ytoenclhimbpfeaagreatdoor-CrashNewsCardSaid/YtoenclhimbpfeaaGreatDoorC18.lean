/- Part 18. -/
import Derived.Test.YtoenclhimbpfeaaGreatDoorC17
namespace Go.Proofs.YtoenclhimbpfeaaGreatDoor
set_option linter.all false
set_option maxHeartbeats 16000000
set_option maxRecDepth 100000
section
open Go.Proofs.Tryz Go.RowKit
def rvP(t:TypeId)(b:Nat):Value:=.iface t (.pointer (some ⟨b,0,none⟩))
def IsP(t:TypeId)(m a s v r:FuncId):Prop:=
 (t=87∧m=167∧a=165∧s=169∧v=171∧r=168)∨
 (t=90∧m=178∧a=176∧s=180∧v=182∧r=179)∨
 (t=93∧m=206∧a=204∧s=208∧v=210∧r=207)∨
 (t=96∧m=221∧a=219∧s=223∧v=225∧r=222)∨
 (t=99∧m=239∧a=237∧s=241∧v=243∧r=240)
theorem cloP{t:TypeId}{m a s v r:FuncId}(h:IsP t m a s v r)(b:Nat):Clo (rvP t b) b m a s v r:=by
 unfold rvP;rcases h with⟨rfl,rfl,rfl,rfl,rfl,rfl⟩|⟨rfl,rfl,rfl,rfl,rfl,rfl⟩|⟨rfl,rfl,rfl,rfl,rfl,rfl⟩|⟨rfl,rfl,rfl,rfl,rfl,rfl⟩|⟨rfl,rfl,rfl,rfl,rfl,rfl⟩
 all_goals
  refine⟨fun hc q2 q4=>?_,fun hc q1 q2 q3 q4 hg=>?_,fun hc q1 q3 hg=>?_,fun hc q1 q3=>?_,fun hc q1 q3 hg=>?_,fun hc q1 q2=>?_⟩
  rotate_left
  rcases hg with rfl|rfl|rfl
  rotate_left 3
  rcases hg with rfl|rfl
  rotate_left 3
  rcases hg with rfl|rfl
  rotate_left 2
 all_goals
  have HM:=Hd hc;clear hc
  first
   |go_enter func81,ntmps81
   |go_enter func84,ntmps84
   |go_enter func85,ntmps85
   |go_enter func89,ntmps89
   |go_enter func90,ntmps90
   |go_enter func91,ntmps91
   |go_enter func70,ntmps70
   |go_enter func108,ntmps108
   |go_enter func92,ntmps92
   |go_enter_defers func107,ntmps107
  go_wp2_with fail
  refine HM.out.mono ?_;clear HM;rintro e w1⟨rfl,h1⟩;have H1:=Hd h1;clear h1;go_wp2
 all_goals first
  |(go_returns;exact⟨rfl,H1.out⟩)
  |(refine leaves_cons (f:=124) (args:=#[]) (by simp) (by simp[go_sem]) ?_
    refine(ask_idle _).mono ?_;rintro e u' w''⟨rfl,rfl,rfl⟩;simp[Leaves,settle,results,Tryz.results107,go_sem];exact H1.out)
def repV4(b:Nat):Value:=.iface 87 (.pointer (some ⟨b,0,none⟩))
def repV5(b:Nat):Value:=.iface 90 (.pointer (some ⟨b,0,none⟩))
def repV6(b:Nat):Value:=.iface 93 (.pointer (some ⟨b,0,none⟩))
def repV7(b:Nat):Value:=.iface 96 (.pointer (some ⟨b,0,none⟩))
def repV8(b:Nat):Value:=.iface 99 (.pointer (some ⟨b,0,none⟩))
theorem clo4(b:Nat):Clo (repV4 b) b 167 165 169 171 168:=cloP (.inl ⟨rfl,rfl,rfl,rfl,rfl,rfl⟩) b
theorem clo5(b:Nat):Clo (repV5 b) b 178 176 180 182 179:=cloP (.inr (.inl ⟨rfl,rfl,rfl,rfl,rfl,rfl⟩)) b
theorem clo6(b:Nat):Clo (repV6 b) b 206 204 208 210 207:=cloP (.inr (.inr (.inl ⟨rfl,rfl,rfl,rfl,rfl,rfl⟩))) b
theorem clo7(b:Nat):Clo (repV7 b) b 221 219 223 225 222:=cloP (.inr (.inr (.inr (.inl ⟨rfl,rfl,rfl,rfl,rfl,rfl⟩)))) b
theorem clo8(b:Nat):Clo (repV8 b) b 239 237 241 243 240:=cloP (.inr (.inr (.inr (.inr (⟨rfl,rfl,rfl,rfl,rfl,rfl⟩))))) b
end
end Go.Proofs.YtoenclhimbpfeaaGreatDoor
