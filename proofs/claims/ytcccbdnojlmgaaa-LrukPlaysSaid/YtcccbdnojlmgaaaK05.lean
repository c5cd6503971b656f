/- Part 5. -/
import Derived.Test.YtcccbdnojlmgaaaK04
import Derived.Test.YtcccbdnojlmgaaaK03
import Derived.Deep.RegionLaw
import Derived.BigQuiet
namespace Go.Proofs.Ytcccbdnojlmgaaa
set_option linter.all false
set_option maxHeartbeats 16000000
set_option maxRecDepth 100000
section
open Go.RowKit
def fixF{α:Type}(lt:α->α->Bool)(a:Nat->α)(n i:Nat):Nat->α:=if i<(downF lt n a i).2 then(downF lt n a i).1 else upF lt (downF lt n a i).1 i
def remF{α:Type}(lt:α->α->Bool)(a:Nat->α)(n i:Nat):Nat->α:=if n=i then a else fixF lt (swp a i n) n i
section
variable{α:Type}{lt:α->α->Bool}{HR:World->(Nat->α)->Nat->(Nat->Prop)->Prop}{p:Addr}{enc:α->Value}{okP:(Nat->α)->Nat->α->Prop}(S:HeapSys lt HR p enc okP){w:World}{a:Nat->α}{n:Nat}{F:Nat->Prop}
include S
theorem heap_push(h:HR w a n F){t:α}(ht:okP a n t):Calls Try.prog 58 #[.iface 100 (.pointer (some p)),enc t] w fun e w'=>e=.returned (.tuple #[])∧∃F',HR w' (upF lt (upd a n t) n) (n+1) F'∧Fr F w w'∧∀i,F' i->F i∨w.heap.size<=i:=by
 obtain⟨rv,hm,HC⟩:=S.push h ht;have HCL:=Lib.hid HC;have HS:=Lib.hid S;have hn:=S.small h;clear HC S h ht;generalize enc t=et at*;go_enter Try.func58,Try.ntmps58
 go_wp2_with fail
 refine HCL.out.mono ?_;clear HCL hm;rintro e w1⟨rfl,F1,hr1,hf1,hF1⟩;obtain⟨rv2,hm2,HC2⟩:=HS.out.len hr1;have HCL2:=Lib.hid HC2;have HR1:=Lib.hid (And.intro hr1 (And.intro hf1 hF1));clear HC2 hr1 hf1 hF1
 go_wp2_with fail
 refine HCL2.out.mono ?_;clear HCL2 hm2;rintro e w2⟨rfl,hf2⟩;have HU:=Lib.hid (up_walk HS.out (HS.out.fr HR1.out.1 hf2 (fun _ _ q=>q)) (j:=n) (by omega));have HF2:=Lib.hid hf2;clear hf2;have e1:((n+1:Nat):Int)-1=(n:Int):=by omega
 go_wp2_with fail
 refine HU.out.mono ?_;clear HU;rintro e w3⟨rfl,hr3,hf3⟩;have HR3:=Lib.hid (And.intro hr3 hf3);clear hr3 hf3;go_wp2;go_returns;refine⟨rfl,F1,HR3.out.1,(HR1.out.2.1.trans HF2.out (fun _ q=>q.elim)).trans HR3.out.2 (fun i q=>HR1.out.2.2 i q),HR1.out.2.2⟩
end
section
variable{α:Type}{lt:α->α->Bool}{a:Nat->α}{n:Nat}
theorem fix_heap(O:Ord lt){i:Nat}(hi:i<n)(h:GapHeap lt a n i):IsHeap lt (fixF lt a n i) n:=by
 have hd:=h.down O n a i (by omega) hi;have hg:=down_ge lt n a i (by omega) hi;unfold fixF;by_cases q:i<(downF lt n a i).2
 .rw[if_pos q];exact hd.2.1 (by omega)
 .rw[if_neg q,hg.2.1 (by omega)]
  exact UpHeap.up O a i hi (hd.1 (by omega))
theorem fix_mem{i:Nat}(hi:i<n)(t:α):(∃k,k<n∧fixF lt a n i k=t)↔∃k,k<n∧a k=t:=by
 unfold fixF
 split
 .exact down_mem lt t n a i (by omega) hi
 .rw[up_mem lt t _ _ hi];exact down_mem lt t n a i (by omega) hi
theorem fix_out{i:Nat}(hi:i<n):∀k,n<=k->fixF lt a n i k=a k:=by
 intro k hk;unfold fixF
 split
 .exact down_out lt n a i (by omega) hi k hk
 .rw[up_out lt _ _ hi k hk];exact down_out lt n a i (by omega) hi k hk
theorem gap_upd(O:Ord lt)(h:IsHeap lt a n)(i:Nat)(t:α):GapHeap lt (upd a i t) n i:=by
 refine⟨fun k k1 k2 k3 k4=>?_,fun k k1 k2 k3 k4=>?_⟩
 .rw[upd_other _ _ k3,upd_other _ _ k4];exact h k k1 k2
 .have hk:¬k=i:=by unfold par at k3;omega
  have hp:¬par i=i:=by unfold par;omega
  rw[upd_other _ _ hk,upd_other _ _ hp];have h1:=h k k1 k2;rw[k3]at h1;exact O.tr _ _ _ (h i k4 (by unfold par at k3;omega)) h1
theorem gap_swp(O:Ord lt)(h:IsHeap lt a (n+1)){i:Nat}(hi:i<n):GapHeap lt (swp a i n) n i:=by
 refine⟨fun k k1 k2 k3 k4=>?_,fun k k1 k2 k3 k4=>?_⟩
 .have e1:swp a i n k=a k:=by unfold swp;rw[if_neg k3,if_neg (by omega)]
  have e2:swp a i n (par k)=a (par k):=by unfold swp;rw[if_neg k4,if_neg (by unfold par;omega)]
  rw[e1,e2];exact h k k1 (by omega)
 .have hk:¬k=i:=by unfold par at k3;omega
  have e1:swp a i n k=a k:=by unfold swp;rw[if_neg hk,if_neg (by omega)]
  have e2:swp a i n (par i)=a (par i):=by unfold swp;rw[if_neg (by unfold par;omega),if_neg (by unfold par;omega)]
  rw[e1,e2];have h1:=h k k1 (by omega);rw[k3]at h1;exact O.tr _ _ _ (h i k4 (by omega)) h1
theorem rem_heap(O:Ord lt){i:Nat}(hi:i<=n)(h:IsHeap lt a (n+1)):IsHeap lt (remF lt a n i) n:=by
 unfold remF;by_cases q:n=i
 .rw[if_pos q];exact fun k k1 k2=>h k k1 (by omega)
 .rw[if_neg q];exact fix_heap O (by omega) (gap_swp O h (by omega))
theorem rem_last{i:Nat}(hi:i<=n):remF lt a n i n=a i:=by
 unfold remF;by_cases q:n=i
 .rw[if_pos q,q]
 .rw[if_neg q,fix_out (by omega) n (Nat.le_refl _)]
  unfold swp;rw[if_neg q,if_pos rfl]
theorem rem_mem{β:Type}{f:α->β}{i:Nat}(hi:i<=n)(h:InjF f a (n+1))(t:α):(∃k,k<n∧remF lt a n i k=t)↔(∃k,k<n+1∧a k=t)∧¬f t=f (a i):=by
 have key:(∃k,k<n∧swp a i n k=t)↔(∃k,k<n+1∧a k=t)∧¬f t=f (a i):=by
  constructor
  .rintro⟨k,hk,rfl⟩
   by_cases e:k=i
   .have e1:swp a i n k=a n:=by unfold swp;rw[if_pos e]
    rw[e1];exact⟨⟨n,by omega,rfl⟩,fun q=>by have:=h n i (by omega) (by omega) q;omega⟩
   .have e1:swp a i n k=a k:=by unfold swp;rw[if_neg e,if_neg (by omega)]
    rw[e1];exact⟨⟨k,by omega,rfl⟩,fun q=>e (h k i (by omega) (by omega) q)⟩
  .rintro⟨⟨k,hk,rfl⟩,hne⟩
   have e:¬k=i:=fun q=>hne (by rw[q])
   by_cases e2:k=n
   .subst e2
    exact⟨i,by omega,by unfold swp;rw[if_pos rfl]⟩
   .exact⟨k,by omega,by unfold swp;rw[if_neg e,if_neg e2]⟩
 unfold remF;by_cases q:n=i
 .rw[if_pos q,<-key]
  subst q;have e1:∀k,k<n->swp a n n k=a k:=fun k hk=>by unfold swp;rw[if_neg (by omega),if_neg (by omega)]
  exact⟨fun⟨k,h1,h2⟩=>⟨k,h1,by rw[e1 k h1];exact h2⟩,fun⟨k,h1,h2⟩=>⟨k,h1,by rw[<-e1 k h1];exact h2⟩⟩
 .rw[if_neg q,<-key];exact fix_mem (by omega) t
end
section
variable{α:Type}{lt:α->α->Bool}{HR:World->(Nat->α)->Nat->(Nat->Prop)->Prop}{p:Addr}{enc:α->Value}{okP:(Nat->α)->Nat->α->Prop}(S:HeapSys lt HR p enc okP){w:World}{a:Nat->α}{n:Nat}{F:Nat->Prop}
include S
theorem down_up{m:Nat}(h:HR w a m F)(hnm:n<=m){i:Nat}(hi:i<n):∃b:Bool,Hid (Calls Try.prog 56 #[.iface 100 (.pointer (some p)),.int .i64 i,.int .i64 n] w fun e w'=>e=.returned (.bool b)∧HR w' (downF lt n a i).1 m F∧Fr F w w')∧
  (b=true->fixF lt a n i=(downF lt n a i).1)∧Hid (b=false->∀w',HR w' (downF lt n a i).1 m F->Calls Try.prog 57 #[.iface 100 (.pointer (some p)),.int .i64 i] w' fun e w''=>e=.returned (.tuple #[])∧HR w'' (fixF lt a n i) m F∧Fr F w' w''):=by
 refine⟨decide (i<(downF lt n a i).2),down_walk S h hnm hi,fun q=>?_,fun q w' hr=>?_⟩
 .unfold fixF;rw[if_pos (by simpa using q)]
 .have e:fixF lt a n i=upF lt (downF lt n a i).1 i:=by unfold fixF;rw[if_neg (by simpa using q)]
  rw[e];exact up_walk S hr (by omega)
theorem heap_fix(h:HR w a n F){i:Nat}(hi:i<n):Calls Try.prog 59 #[.iface 100 (.pointer (some p)),.int .i64 i] w fun e w'=>e=.returned (.tuple #[])∧HR w' (fixF lt a n i) n F∧Fr F w w':=by
 obtain⟨rv,hm,HC⟩:=S.len h;have HCL:=Lib.hid HC;have HS:=Lib.hid S;have HH:=Lib.hid h;clear HC S h;go_enter Try.func59,Try.ntmps59
 go_wp2_with fail
 refine HCL.out.mono ?_;clear HCL hm;rintro e w1⟨rfl,hf1⟩;obtain⟨b,HD,hb1,HU⟩:=down_up HS.out (HS.out.fr HH.out hf1 (fun _ _ q=>q)) (Nat.le_refl _) hi;have HB:=Lib.hid hb1;have HF1:Hid (Fr F w w1):=hf1.mono (fun _ q=>q.elim);clear hb1 hf1
 cases b with
 |true=>
  go_wp2_with fail
  refine HD.out.mono ?_;rintro e w2⟨rfl,hr2,hf2⟩;have HR2:Hid (HR w2 (fixF lt a n i) n F∧Fr F w w2):=⟨by rw[HB.out (by first|rfl|trivial)];exact hr2,HF1.out.trans hf2 (fun _ q=>.inl q)⟩;clear hr2 hf2 HD HU HB;go_wp2;go_returns;exact⟨rfl,HR2.out⟩
 |false=>
  go_wp2_with fail
  refine HD.out.mono ?_;rintro e w2⟨rfl,hr2,hf2⟩;have HU2:=Lib.hid (HU.out (by first|rfl|trivial) w2 hr2);have HF2:=Lib.hid (HF1.out.trans hf2 (fun _ q=>.inl q));clear hr2 hf2 HD HU HB HF1
  go_wp2_with fail
  refine HU2.out.mono ?_;rintro e w3⟨rfl,hr3,hf3⟩;have HR3:=Lib.hid (And.intro hr3 (HF2.out.trans hf3 (fun _ q=>.inl q)));clear hr3 hf3 HU2;go_wp2;go_returns;exact⟨rfl,HR3.out⟩
theorem heap_remove(h:HR w a (n+1) F){i:Nat}(hi:i<=n):Calls Try.prog 47 #[.iface 100 (.pointer (some p)),.int .i64 i] w fun e w'=>e=.returned (enc (a i))∧HR w' (remF lt a n i) n F∧Fr F w w':=by
 obtain⟨rv,hm,HC⟩:=S.len h;have hn:=S.small h;have HCL:=Lib.hid HC;have HS:=Lib.hid S;have HH:=Lib.hid h;have HL:Hid (remF lt a n i n=a i):=rem_last hi;have e1:((n+1:Nat):Int)-1=(n:Int):=by omega
 have KP:Hid (∀w1,HR w1 (remF lt a n i) (n+1) F->∃rv,(method 266 100 (.pointer (some p)) "Pop").run Try.prog w1=.ok (107,rv) w1∧Calls Try.prog 107 #[rv] w1 fun e w'=>e=.returned (enc (a i))∧HR w' (remF lt a n i) n F∧Fr F w1 w'):=by
  intro w1 h1;rw[<-HL.out];exact HS.out.pop h1
 clear HC S h HL;generalize enc (a i)=et at KP⊢;by_cases hni:n=i
 .have HE:Hid (remF lt a n i=a):=by unfold Hid remF;rw[if_pos hni]
  have hb:((n:Int)==(i:Int))=true:=by simp;omega
  have hb2:((n:Int) !=(i:Int))=false:=by simp;omega
  obtain rfl:i=n:=hni.symm;go_enter Try.func47,Try.ntmps47
  go_wp2_with fail
  refine HCL.out.mono ?_;clear HCL hm;rintro e w1⟨rfl,hf1⟩;obtain⟨rv4,hm4,HC4⟩:=KP.out w1 (by rw[HE.out];exact HS.out.fr HH.out hf1 (fun _ _ q=>q));have HCL4:=Lib.hid HC4;have HF1:Hid (Fr F w w1):=hf1.mono (fun _ q=>q.elim);clear HC4 hf1 KP HE
  go_wp2_with fail
  refine HCL4.out.mono ?_;clear HCL4 hm4;rintro e w4⟨rfl,hr4,hf4⟩;have HR4:=Lib.hid (And.intro hr4 (HF1.out.trans hf4 (fun i q=>.inl q)));clear hr4 hf4;go_wp2;go_returns;exact⟨rfl,HR4.out⟩
 .have HE:Hid (remF lt a n i=fixF lt (swp a i n) n i):=by unfold Hid remF;rw[if_neg hni]
  have hb:((n:Int)==(i:Int))=false:=by simp;omega
  have hb2:((n:Int) !=(i:Int))=true:=by simp;omega
  have hlt:i<n:=by omega
  go_enter Try.func47,Try.ntmps47
  go_wp2_with fail
  refine HCL.out.mono ?_;clear HCL hm;rintro e w1⟨rfl,hf1⟩;obtain⟨rv2,hm2,HC2⟩:=HS.out.swap (HS.out.fr HH.out hf1 (fun _ _ q=>q)) (i:=i) (j:=n) (by omega) (by omega);have HCL2:=Lib.hid HC2;have HF1:Hid (Fr F w w1):=hf1.mono (fun _ q=>q.elim);clear HC2 hf1
  go_wp2_with fail
  refine HCL2.out.mono ?_;clear HCL2 hm2;rintro e w2⟨rfl,hr2,hf2⟩;obtain⟨b,HD,hb1,HU⟩:=down_up HS.out hr2 (n:=n) (by omega) hlt;have HB:=Lib.hid hb1;have HF2:=Lib.hid (HF1.out.trans hf2 (fun _ q=>.inl q));clear hb1 hf2 hr2 HF1
  cases b with
  |true=>
   go_wp2_with fail
   refine HD.out.mono ?_;rintro e w3⟨rfl,hr3,hf3⟩;obtain⟨rv4,hm4,HC4⟩:=KP.out w3 (by rw[HE.out,HB.out (by first|rfl|trivial)];exact hr3);have HCL4:=Lib.hid HC4;have HF3:=Lib.hid (HF2.out.trans hf3 (fun _ q=>.inl q));clear HC4 hf3 hr3 KP HE HD HU HB HF2
   go_wp2_with fail
   refine HCL4.out.mono ?_;clear HCL4 hm4;rintro e w4⟨rfl,hr4,hf4⟩;have HR4:=Lib.hid (And.intro hr4 (HF3.out.trans hf4 (fun i q=>.inl q)));clear hr4 hf4;go_wp2;go_returns;exact⟨rfl,HR4.out⟩
  |false=>
   go_wp2_with fail
   refine HD.out.mono ?_;rintro e w3⟨rfl,hr3,hf3⟩;have HU2:=Lib.hid (HU.out (by first|rfl|trivial) w3 hr3);have HF3:=Lib.hid (HF2.out.trans hf3 (fun _ q=>.inl q));clear hf3 hr3 HD HU HB HF2
   go_wp2_with fail
   refine HU2.out.mono ?_;rintro e w5⟨rfl,hr5,hf5⟩;obtain⟨rv4,hm4,HC4⟩:=KP.out w5 (by rw[HE.out];exact hr5);have HCL4:=Lib.hid HC4;have HF5:=Lib.hid (HF3.out.trans hf5 (fun _ q=>.inl q));clear HC4 hf5 hr5 KP HE HU2 HF3
   go_wp2_with fail
   refine HCL4.out.mono ?_;clear HCL4 hm4;rintro e w4⟨rfl,hr4,hf4⟩;have HR4:=Lib.hid (And.intro hr4 (HF5.out.trans hf4 (fun i q=>.inl q)));clear hr4 hf4;go_wp2;go_returns;exact⟨rfl,HR4.out⟩
end
theorem run_underlying{P:Program}{t:TypeId}{d:TypeDesc}(w:World)(h:P.underlying t=some d):(underlying t).run P w=.ok d w:=by
 unfold underlying;simp[go_sem,h]
theorem method_ptr{P:Program}{fuel:Nat}{t e:TypeId}{i:TypeInfo}{f:FuncId}{p:Addr}{w:World}{name:String}(hi:P.info? t=some i)(hm:(i.methods.find? (fun m=>m.name==name)).map (fun m=>(m.path.toList,m.func))=some ([],some (f,true)))
  (hu:P.underlying t=some (.pointer e)):(method (fuel+1) t (.pointer (some p)) name).run P w=.ok (f,.pointer (some p)) w:=by
 obtain⟨m,hm1,hm2⟩:=Option.map_eq_some_iff.1 hm;simp only[Prod.mk.injEq]at hm2;obtain⟨hp,hf⟩:=hm2;unfold method;simp only[Sem.run_bind,run_typeInfo _ hi,Result.andThen_ok,hm1,hp,follow,Sem.run_pure,hf,receiverAt,run_underlying _ hu,Place.get]
theorem method_of{P:Program}{t:TypeId}{name:String}{f:FuncId}{b:Bool}(h:(P.info? t).bind (fun i=>(i.methods.find? (fun m=>m.name==name)).map (fun m=>(m.path.toList,m.func)))=some ([],some (f,b))):
  ∃i,P.info? t=some i∧(i.methods.find? (fun m=>m.name==name)).map (fun m=>(m.path.toList,m.func))=some ([],some (f,b)):=Option.bind_eq_some_iff.1 h
end
section
open Go.Maps Go.RowKit
def thOk(t:Th):Prop:=i64 t.x∧i64 t.a∧i64 t.b
def thF(a:Nat->Th)(i:Nat):Value:=if i%3=0 then .int .i64 (a (i/3)).x else if i%3=1 then .int .i64 (a (i/3)).a else .int .i64 (a (i/3)).b
theorem thF_0(a:Nat->Th)(k:Nat):thF a (k*3)=.int .i64 (a k).x:=by
 unfold thF;rw[if_pos (by omega),show k*3/3=k from by omega]
theorem thF_1(a:Nat->Th)(k:Nat):thF a (k*3+1)=.int .i64 (a k).a:=by
 unfold thF;rw[if_neg (by omega),if_pos (by omega),show(k*3+1)/3=k from by omega]
theorem thF_2(a:Nat->Th)(k:Nat):thF a (k*3+2)=.int .i64 (a k).b:=by
 unfold thF;rw[if_neg (by omega),if_neg (by omega),show(k*3+2)/3=k from by omega]
theorem thF_set(a:Nat->Th)(k:Nat)(t:Th):upd (upd (upd (thF a) (k*3) (.int .i64 t.x)) (k*3+1) (.int .i64 t.a)) (k*3+2) (.int .i64 t.b)=thF (upd a k t):=by
 funext j
 by_cases e2:j=k*3+2
 .subst e2;rw[upd_same,thF_2,upd_same]
 .rw[upd_other _ _ e2]
  by_cases e1:j=k*3+1
  .subst e1;rw[upd_same,thF_1,upd_same]
  .rw[upd_other _ _ e1]
   by_cases e0:j=k*3
   .subst e0;rw[upd_same,thF_0,upd_same]
   .rw[upd_other _ _ e0]
    unfold thF;rw[upd_other _ _ (by omega:¬j/3=k)]
theorem swp_upd{α:Type}(a:Nat->α)(i j:Nat):upd (upd a i (a j)) j (a i)=swp a i j:=by
 funext k
 unfold upd swp;by_cases e1:k=j
 .subst e1
  by_cases e2:k=i
  .rw[if_pos rfl,if_pos e2,e2]
  .rw[if_pos rfl,if_neg e2,if_pos rfl]
 .rw[if_neg e1]
  by_cases e2:k=i
  .rw[if_pos e2,if_pos e2]
  .rw[if_neg e2,if_neg e2,if_neg e1]
theorem SlF.snoc3{w:World}{e:TypeId}{v:Value}{c:Nat->Value}{k:Nat}{u1 u2 u3:Value}(h:w.ownsRow 0 e 3 v (k+1) ((List.range (k*3)).map c++[u1,u2,u3])):SlF w e 3 v (k+1) (upd (upd (upd c (k*3) u1) (k*3+1) u2) (k*3+2) u3):=by
 unfold SlF;rw[show(k+1)*3=k*3+2+1 from by omega,<-range_snoc,<-range_snoc,<-range_snoc,List.append_assoc,List.append_assoc];exact h
theorem MIq:MI Try.prog 74 3 3 .i64 .i64:=⟨Try.underlying74,Try.underlying3,Try.underlying3,fun w=>Try.zeroValue3 w⟩
def MQ(w:World)(mo:Option Nat)(n:Nat)(g:Int->Option Int):Prop:=match mo with
 |none=>n=0∧∀x,g x=none
 |some mb=>MpN Try.prog 3 3 .i64 .i64 w mb n g
def qH(lv:Value)(mo:Option Nat)(i:Nat):Value:=if i=0 then lv else .map mo
structure QC(w:World)(qb:Nat)(a:Nat->Th)(n:Nat)(lv:Value)(mo:Option Nat)(g:Int->Option Int):Prop where
 hd:Blk w qb 2 (qH lv mo)
 li:SlF w 108 3 lv n (thF a)
 mp:MQ w mo n g
 pl:∀x k,g x=some k↔∃j:Nat,k=(j:Int)∧j<n∧(a j).x=x
 ok:∀k,k<n->thOk (a k)
 n1:∀b,lv.ownBlock=some b->¬b=qb∧¬mo=some b
 n2:∀b,mo=some b->¬b=qb
 sm:n<1000000
def FQ(qb:Nat)(lv:Value)(mo:Option Nat):Nat->Prop:=fun i=>i=qb∨lv.ownBlock=some i∨mo=some i
def HRq(qb:Nat):World->(Nat->Th)->Nat->(Nat->Prop)->Prop:=fun w a n F=>∃lv mo g,QC w qb a n lv mo g∧∀i,F i↔FQ qb lv mo i
section
variable{w w':World}{qb n:Nat}{a:Nat->Th}{lv:Value}{mo:Option Nat}{g:Int->Option Int}{F:Nat->Prop}
theorem MQ.fr(h:MQ w mo n g){G:Nat->Prop}(f:Fr G w w')(hG:∀b,mo=some b->¬G b):MQ w' mo n g:=by
 cases mo with
 |none=>exact h
 |some mb=>exact MpN.fr h f (hG mb rfl)
theorem MQ.lt(h:MQ w mo n g):∀b,mo=some b->b<w.heap.size:=by
 rintro b rfl;exact MpN.lt h
theorem QC.fr(h:QC w qb a n lv mo g){G:Nat->Prop}(f:Fr G w w')(hG:∀i,FQ qb lv mo i->¬G i):QC w' qb a n lv mo g:=
 ⟨h.hd.fr f (hG _ (.inl rfl)),h.li.fr f (fun b q=>hG b (.inr (.inl q))),h.mp.fr f (fun b q=>hG b (.inr (.inr q))),h.pl,h.ok,h.n1,h.n2,h.sm⟩
theorem QC.fr0(h:QC w qb a n lv mo g)(f:Fr NoF w w'):QC w' qb a n lv mo g:=h.fr f (fun _ _ q=>q)
theorem QC.lt(h:QC w qb a n lv mo g):∀i,FQ qb lv mo i->i<w.heap.size:=by
 rintro i(rfl|q|q)
 .exact h.hd.lt
 .exact h.li.lt i q
 .exact h.mp.lt i q
theorem QC.inj(h:QC w qb a n lv mo g):InjF (fun t:Th=>t.x) a n:=by
 intro k m hk hm e;have h1:=(h.pl (a k).x (k:Int)).2 ⟨k,rfl,hk,rfl⟩;have h2:=(h.pl (a k).x (m:Int)).2 ⟨m,rfl,hm,e.symm⟩;rw[h1]at h2;simp at h2;omega
theorem QC.c0(h:QC w qb a n lv mo g):w.cell? ⟨qb,0,none⟩=some lv:=h.hd.cell (i:=0) (by omega)
theorem QC.c1(h:QC w qb a n lv mo g):w.cell? ⟨qb,1,none⟩=some (.map mo):=h.hd.cell (i:=1) (by omega)
theorem QC.el(h:QC w qb a n lv mo g){i:Nat}(hi:i<n):∃gb cap,lv=.slice (some ⟨gb,0,none⟩) n cap∧n<=cap∧cap<=9223372036854775807∧gb<w.heap.size∧(∀j,w.frozen? ⟨gb,j,none⟩=false)∧w.cell? ⟨gb,i*3,none⟩=some (.int .i64 (a i).x)∧w.cell? ⟨gb,i*3+1,none⟩=some (.int .i64 (a i).a)∧w.cell? ⟨gb,i*3+2,none⟩=some (.int .i64 (a i).b):=by
 obtain⟨gb,cap,e,h1,h2,h3,h4,h5⟩:=h.li.at (by omega);exact⟨gb,cap,e,h1,by unfold maxLen at h2;omega,h3,h4,by rw[h5 _ (by omega),thF_0],by rw[h5 _ (by omega),thF_1],by rw[h5 _ (by omega),thF_2]⟩
theorem q_len(h:QC w qb a n lv mo g):Calls Try.prog 52 #[.pointer (some ⟨qb,0,none⟩)] w fun e w'=>e=.returned (.int .i64 (n:Nat))∧w=w':=by
 have c0:=h.c0;have lb:=h.hd.lt;obtain⟨va,vc,rfl,_,_⟩:=h.li.shape;clear h;go_enter Try.func52,Try.ntmps52;go_wp2;go_returns;exact⟨rfl,rfl⟩
theorem q_less(h:QC w qb a n lv mo g){i j:Nat}(hi:i<n)(hj:j<n):Calls Try.prog 106 #[.pointer (some ⟨qb,0,none⟩),.int .i64 i,.int .i64 j] w fun e w'=>e=.returned (.bool (ltT (a i) (a j)))∧Fr NoF w w':=by
 have hn:=h.sm;have HC:Hid (∀W,Fr NoF w W->W.cell? ⟨qb,0,none⟩=some lv):=fun W f=>(h.fr0 f).c0
 obtain⟨gb,cap,rfl,h1,h2,h3,h4,i0,i1,i2⟩:=h.el hi;obtain⟨gb',cap',e,_,_,_,_,j0,j1,j2⟩:=h.el hj;simp only[Value.slice.injEq,Option.some.injEq,Addr.mk.injEq]at e;obtain⟨⟨rfl,_⟩,_,rfl⟩:=e
 have HCL:Hid (∀W,Fr NoF w W->W.cell? ⟨gb,i*3,none⟩=some (.int .i64 (a i).x)∧W.cell? ⟨gb,i*3+1,none⟩=some (.int .i64 (a i).a)∧W.cell? ⟨gb,i*3+2,none⟩=some (.int .i64 (a i).b)∧W.cell? ⟨gb,j*3,none⟩=some (.int .i64 (a j).x)∧W.cell? ⟨gb,j*3+1,none⟩=some (.int .i64 (a j).a)∧W.cell? ⟨gb,j*3+2,none⟩=some (.int .i64 (a j).b)∧W.cell? ⟨qb,0,none⟩=some (.slice (some ⟨gb,0,none⟩) n cap)):=by
  intro W f;refine⟨?_,?_,?_,?_,?_,?_,HC.out W f⟩
  .rw[f.cell (p:=⟨gb,_,none⟩) h3 id];exact i0
  .rw[f.cell (p:=⟨gb,_,none⟩) h3 id];exact i1
  .rw[f.cell (p:=⟨gb,_,none⟩) h3 id];exact i2
  .rw[f.cell (p:=⟨gb,_,none⟩) h3 id];exact j0
  .rw[f.cell (p:=⟨gb,_,none⟩) h3 id];exact j1
  .rw[f.cell (p:=⟨gb,_,none⟩) h3 id];exact j2
 have HCM:=Lib.hid (fun W=>compare_calls (a i) (a j) W);unfold thV at HCM;have HL:Hid (ltT (a i) (a j)=decide (cmpT (a i) (a j)<0)):=rfl;rw[HL.out];generalize cmpT (a i) (a j)=cv at*;generalize(a i).x=ix at*;generalize(a i).a=ia at*;generalize(a i).b=ib at*;generalize(a j).x=jx at*;generalize(a j).a=ja at*;generalize(a j).b=jb at*;have lb:=h.hd.lt;clear h h4 i0 i1 i2 j0 j1 j2 HL;go_enter Try.func106,Try.ntmps106
 go_wp2_with fail
 go_region_held3(fun w'=>w'.cell? ⟨gb,i*3,none⟩=some (.int .i64 ix)∧w'.cell? ⟨gb,i*3+1,none⟩=some (.int .i64 ia)∧w'.cell? ⟨gb,i*3+2,none⟩=some (.int .i64 ib)∧w'.cell? ⟨gb,j*3,none⟩=some (.int .i64 jx)∧w'.cell? ⟨gb,j*3+1,none⟩=some (.int .i64 ja)∧w'.cell? ⟨gb,j*3+2,none⟩=some (.int .i64 jb)∧w'.cell? ⟨qb,0,none⟩=some (.slice (some ⟨gb,0,none⟩) n cap))
  (exact HCL.out _ (by repeat(first|exact FH.out|exact Fr.refl NoF _|apply Fr.drew|apply Fr.drewN)))
  (first
   |(go_at_call 55;(with_reducible refine(HCM.out _).mono ?_);rintro e wh⟨rfl,fh⟩;have FH:=Lib.hid (((Fr.refl NoF w).drew).trans fh (fun _ q=>q.elim));clear fh))
 all_goals
  go_wp2;go_returns;exact⟨rfl,by repeat(first|exact FH.out|apply Fr.drew|apply Fr.drewN)⟩
theorem QC.swap{gb cap:Nat}(h:QC w qb a n (.slice (some ⟨gb,0,none⟩) n cap) mo g){i j:Nat}(hi:i<n)(hj:j<n){w1:World}
  (hw:w1=(((((w.setCell ⟨gb,i*3,none⟩ (.int .i64 (a j).x)).setCell ⟨gb,i*3+1,none⟩ (.int .i64 (a j).a)).setCell ⟨gb,i*3+2,none⟩ (.int .i64 (a j).b)).setCell ⟨gb,j*3,none⟩ (.int .i64 (a i).x)).setCell ⟨gb,j*3+1,none⟩ (.int .i64 (a i).a)).setCell ⟨gb,j*3+2,none⟩ (.int .i64 (a i).b)):
  SlF w1 108 3 (.slice (some ⟨gb,0,none⟩) n cap) n (thF (swp a i j))∧Fr (fun k=>k=gb) w w1∧∃mb,mo=some mb∧MpN Try.prog 3 3 .i64 .i64 w1 mb n g∧w1.cell? ⟨qb,0,none⟩=some (.slice (some ⟨gb,0,none⟩) n cap)∧w1.cell? ⟨qb,1,none⟩=some (.map (some mb))∧i64 (a i).x∧i64 (a j).x∧
   Hid (∀w2,MpN Try.prog 3 3 .i64 .i64 w2 mb n (updI (updI g (a j).x (some (i:Int))) (a i).x (some (j:Int)))->Fr (fun k=>k=mb) w1 w2->HRq qb w2 (swp a i j) n (FQ qb (.slice (some ⟨gb,0,none⟩) n cap) mo)∧Fr (FQ qb (.slice (some ⟨gb,0,none⟩) n cap) mo) w w2):=by
 have fr:Fr (fun k=>k=gb) w w1:=by
  rw[hw];exact((((((Fr.refl (fun k=>k=gb) w).setCell (p:=⟨gb,i*3,none⟩) (.inl rfl) _).setCell (p:=⟨gb,i*3+1,none⟩) (.inl rfl) _).setCell (p:=⟨gb,i*3+2,none⟩) (.inl rfl) _).setCell (p:=⟨gb,j*3,none⟩) (.inl rfl) _).setCell (p:=⟨gb,j*3+1,none⟩) (.inl rfl) _).setCell (p:=⟨gb,j*3+2,none⟩) (.inl rfl) _
 have s1:=((((((h.li.set (i:=i*3) (by omega) (.int .i64 (a j).x)).set (i:=i*3+1) (by omega) (.int .i64 (a j).a)).set (i:=i*3+2) (by omega) (.int .i64 (a j).b)).set (i:=j*3) (by omega) (.int .i64 (a i).x)).set (i:=j*3+1) (by omega) (.int .i64 (a i).a)).set (i:=j*3+2) (by omega) (.int .i64 (a i).b));rw[thF_set a i (a j),thF_set (upd a i (a j)) j (a i),swp_upd,<-hw]at s1;clear hw;obtain⟨k1,k2⟩:=h.n1 gb rfl
 cases mo with
 |none=>have:=h.mp.1;omega
 |some mb=>
  have k3:=h.n2 mb rfl;have hne:¬mb=gb:=fun q=>k2 (by rw[q])
  refine⟨s1,fr,mb,rfl,MpN.fr h.mp fr hne,?_,?_,(h.ok i hi).1,(h.ok j hj).1,?_⟩
  .rw[fr.cell (p:=⟨qb,0,none⟩) h.hd.lt (fun q=>k1 q.symm)];exact h.c0
  .rw[fr.cell (p:=⟨qb,1,none⟩) h.hd.lt (fun q=>k1 q.symm)];exact h.c1
  .intro w2 hm f2
   refine⟨⟨_,some mb,_,⟨(h.hd.fr fr (fun q=>k1 q.symm)).fr f2 (fun q=>k3 q.symm),s1.fr f2 (fun b q e=>by rw[e]at q;exact(h.n1 mb q).2 rfl),hm,fun x k=>?_,fun k hk=>?_,h.n1,h.n2,h.sm⟩,fun i=>Iff.rfl⟩,(fr.mono (fun i q=>.inr (.inl (by rw[q];rfl)))).trans f2 (fun i q=>.inl (.inr (.inr (by rw[q]))))⟩
   .have hij:=h.inj
    by_cases e1:x=(a i).x
    .subst e1
     rw[updI_same];constructor
     .rintro⟨rfl⟩
      refine⟨j,rfl,hj,?_⟩;unfold swp;split
      .rename_i q;rw[q]
      .rw[if_pos rfl]
     .rintro⟨j',rfl,hj',q⟩
      have:j'=j:=by
       have hs:=swp_inj hi hj hij;refine hs j' j hj' hj ?_
       show(swp a i j j').x=(swp a i j j).x
       rw[q];unfold swp;split
       .rename_i q;rw[q]
       .rw[if_pos rfl]
      rw[this]
    .rw[updI_other _ _ e1]
     by_cases e2:x=(a j).x
     .subst e2
      rw[updI_same];constructor
      .rintro⟨rfl⟩
       exact⟨i,rfl,hi,by unfold swp;rw[if_pos rfl]⟩
      .rintro⟨j',rfl,hj',q⟩
       have:j'=i:=by
        have hs:=swp_inj hi hj hij;refine hs j' i hj' hi ?_
        show(swp a i j j').x=(swp a i j i).x
        rw[q];unfold swp;rw[if_pos rfl]
       rw[this]
     .rw[updI_other _ _ e2,h.pl x k]
      constructor
      .rintro⟨j',rfl,hj',q⟩
       refine⟨j',rfl,hj',?_⟩;unfold swp;rw[if_neg (fun e=>e1 (by rw[<-q,e])),if_neg (fun e=>e2 (by rw[<-q,e]))];exact q
      .rintro⟨j',rfl,hj',q⟩
       refine⟨j',rfl,hj',?_⟩;unfold swp at q
       split at q
       .exact(e2 q.symm).elim
       .split at q
        .exact(e1 q.symm).elim
        .exact q
   .unfold swp
    split
    .exact h.ok j hj
    .split
     .exact h.ok i hi
     .exact h.ok k hk
end
end
end Go.Proofs.Ytcccbdnojlmgaaa
