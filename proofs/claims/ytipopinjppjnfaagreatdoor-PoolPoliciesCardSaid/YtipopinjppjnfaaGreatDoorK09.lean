/- Part 9. -/
import Derived.Test.YtipopinjppjnfaaGreatDoorK08
namespace Go.Proofs.YtipopinjppjnfaaGreatDoor
set_option linter.all false
set_option maxHeartbeats 16000000
set_option maxRecDepth 100000
section
open Go.Proofs.Tryz Go.RowKit
structure PT(τ:Type) where
 f:Nat->FrS
 pl:Nat->Option Int
 E:Nat->Bool
 I:Nat->Bool
 sc:Nat
 D:RS
 A:τ
structure PJ{τ:Type}(RR:World->τ->(Nat->Prop)->Prop)(w:World)(p:PP)(T:PT τ)(m:Nat)(FD FR:Nat->Prop):Prop where
 mp:MP w p T.f T.pl T.E T.I T.sc m
 cd:CD p.db T.D m w FD
 rr:RR w T.A FR
 s1:∀i,p.own i->¬FD i∧¬FR i
 s2:∀i,FD i->¬FR i
 t1:¬FD 0∧¬FR 0
def PI{τ:Type}(RR:World->τ->(Nat->Prop)->Prop)(p:PP)(T:PT τ)(m:Nat)(w:World)(F:Nat->Prop):Prop:=∃FD FR,PJ RR w p T m FD FR∧∀i,F i↔p.own i∨FD i∨FR i
theorem Led.refl{R:World->(Nat->Prop)->Prop}{F:Nat->Prop}{w:World}(h:R w F):Led R F w w:=⟨F,h,Fr.refl _ _,fun i q=>.inl q⟩
theorem Led.trans{R R':World->(Nat->Prop)->Prop}{F F1:Nat->Prop}{w w1 w2:World}(f:Fr F w w1)(hF:∀i,F1 i->F i∨w.heap.size<=i)(h:Led R' F1 w1 w2):Led R' F w w2:=by
 obtain⟨F2,h2,g,q⟩:=h;refine⟨F2,h2,f.trans g hF,fun i k=>?_⟩;rcases q i k with q|q
 .exact hF i q
 .have:=f.size;exact .inr (by omega)
theorem Led.mono{R R':World->(Nat->Prop)->Prop}{F:Nat->Prop}{w w':World}(h:Led R F w w')(k:∀F',R w' F'->R' w' F'):Led R' F w w':=by
 obtain⟨F',h,f,q⟩:=h;exact⟨F',k F' h,f,q⟩
section
variable{τ:Type}{P:Adv τ}{RR:World->τ->(Nat->Prop)->Prop}{ok:Nat->τ->(Nat->Nat)->(Nat->Bool)->Prop}{p:PP}(S:RepSys P RR p.pb p.rv p.n ok){w w':World}{T:PT τ}{m:Nat}{F:Nat->Prop}
theorem PI.me(H:PI RR p T m w F):MP w p T.f T.pl T.E T.I T.sc m:=by obtain⟨FD,FR,h,_⟩:=H;exact h.mp
theorem PI.own(H:PI RR p T m w F):∀i,p.own i->F i:=by obtain⟨FD,FR,h,hF⟩:=H;exact fun i q=>(hF i).2 (.inl q)
theorem PI.set(H:PI RR p T m w F){f:Nat->FrS}{pl:Nat->Option Int}{E I:Nat->Bool}{sc k:Nat}(h:MP w' p f pl E I sc k)(g:Fr p.own w w')(hk:m<=k)(S:RepSys P RR p.pb p.rv p.n ok):Led (PI RR p {T with f:=f,pl:=pl,E:=E,I:=I,sc:=sc} k) F w w':=by
 obtain⟨FD,FR,H,hF⟩:=H;exact⟨F,⟨FD,FR,⟨h,(H.cd.fr g (fun i q k=>(H.s1 i k).1 q)).more hk,S.fr H.rr g (fun i q k=>(H.s1 i k).2 q),H.s1,H.s2,H.t1⟩,hF⟩,g.mono (fun i q=>(hF i).2 (.inl q)),fun i q=>.inl q⟩
theorem PI.more(H:PI RR p T m w F){k:Nat}(hk:m<=k):PI RR p T k w F:=by
 obtain⟨FD,FR,H,hF⟩:=H;exact⟨FD,FR,⟨H.mp.more hk,H.cd.more hk,H.rr,H.s1,H.s2,H.t1⟩,hF⟩
include S
theorem PI.fro(H:PI RR p T m w F){G:Nat->Prop}(g:Fr G w w')(hG:∀i,F i->¬G i)(ht:¬G 0):PI RR p T m w' F:=by
 obtain⟨FD,FR,H,hF⟩:=H;exact⟨FD,FR,⟨H.mp.fro g (fun i q=>hG i ((hF i).2 (.inl q))) ht,H.cd.fr g (fun i q=>hG i ((hF i).2 (.inr (.inl q)))),S.fr H.rr g (fun i q=>hG i ((hF i).2 (.inr (.inr q)))),H.s1,H.s2,H.t1⟩,hF⟩
theorem PI.fr0(H:PI RR p T m w F)(g:Fr NoF w w'):PI RR p T m w' F:=H.fro S g (fun _ _ q=>q) id
theorem PI.lt(H:PI RR p T m w F):∀i,F i->i<w.heap.size:=by
 obtain⟨FD,FR,H,hF⟩:=H;intro i q;rcases(hF i).1 q with q|q|q
 .exact H.mp.lt i q
 .exact H.cd.lt i q
 .exact S.lt H.rr i q
theorem PI.disk(H:PI RR p T m w F){g:FuncId}{args:Array Value}{Q:Ending->World->Prop}{D':RS}{k:Nat}(hk:m<=k)(hc:∀FD,CD p.db T.D m w FD->Calls prog g args w fun e w'=>Q e w'∧Led (CD p.db D' k) FD w w'):
  Calls prog g args w fun e w'=>Q e w'∧Led (PI RR p {T with D:=D'} k) F w w':=by
 obtain⟨FD,FR,H,hF⟩:=H;refine(hc FD H.cd).mono ?_;rintro e w'⟨he,FD',hd,f,hq⟩;refine⟨he,fun i=>p.own i∨FD' i∨FR i,⟨FD',FR,⟨(H.mp.fro f (fun i q=>(H.s1 i q).1) H.t1.1).more hk,hd,S.fr H.rr f (fun i q k=>H.s2 i k q),fun i q=>⟨fun k=>?_,(H.s1 i q).2⟩,fun i q k=>?_,fun q=>?_,H.t1.2⟩,fun i=>Iff.rfl⟩,f.mono (fun i q=>(hF i).2 (.inr (.inl q))),?_⟩
 .rcases hq i k with k|k
  .exact(H.s1 i q).1 k
  .have:=H.mp.lt i q;omega
 .rcases hq i q with q|q
  .exact H.s2 i q k
  .have:=S.lt H.rr i k;omega
 .rcases hq _ q with q|q
  .exact H.t1.1 q
  .have:=H.mp.tab.lt;omega
 .rintro i(q|q|q)
  .exact .inl ((hF i).2 (.inl q))
  .exact(hq i q).imp (fun q=>(hF i).2 (.inr (.inl q))) id
  .exact .inl ((hF i).2 (.inr (.inr q)))
theorem PI.told(H:PI RR p T m w F){g:FuncId}{args:Array Value}{Q:Ending->World->Prop}{s':τ}(hc:∀FR,RR w T.A FR->(∀i,FR i->F i)->¬FR p.pb->Calls prog g args w fun e w'=>Q e w'∧Tld RR s' FR w w'):
  Calls prog g args w fun e w'=>Q e w'∧Led (PI RR p {T with A:=s'} m) F w w':=by
 obtain⟨FD,FR,H,hF⟩:=H;refine(hc FR H.rr (fun i q=>(hF i).2 (.inr (.inr q))) (H.s1 _ (.inl rfl)).2).mono ?_;rintro e w'⟨he,FR',hd,f,hq⟩;refine⟨he,fun i=>p.own i∨FD i∨FR' i,⟨FD,FR',⟨H.mp.fro f (fun i q=>(H.s1 i q).2) H.t1.2,H.cd.fr f (fun i q=>H.s2 i q),hd,fun i q=>⟨(H.s1 i q).1,fun k=>?_⟩,fun i q k=>?_,H.t1.1,fun q=>?_⟩,fun i=>Iff.rfl⟩,f.mono (fun i q=>(hF i).2 (.inr (.inr q))),?_⟩
 .rcases hq i k with k|k
  .exact(H.s1 i q).2 k
  .have:=H.mp.lt i q;omega
 .rcases hq i k with k|k
  .exact H.s2 i q k
  .have:=H.cd.lt i q;omega
 .rcases hq _ q with q|q
  .exact H.t1.2 q
  .have:=H.mp.tab.lt;omega
 .rintro i(q|q|q)
  .exact .inl ((hF i).2 (.inl q))
  .exact .inl ((hF i).2 (.inr (.inl q)))
  .exact(hq i q).imp (fun q=>(hF i).2 (.inr (.inr q))) id
theorem PI.tell1(H:PI RR p T m w F){g:FuncId}{c1:Value}{s':τ}(ho:Own g)(hc:∀FR,RR w T.A FR->(∀i,FR i->F i)->Calls prog g #[p.rv,c1] w fun e w'=>e=.returned (.tuple #[])∧Tld RR s' FR w w'):
  Calls prog 48 #[p.ptr,.func (.func g) #[] #[c1]] w fun e w'=>e=.returned (.tuple #[])∧Led (PI RR p {T with A:=s'} m) F w w':=
 H.told S (fun FR hr hF _=>tell_one ho (H.me.ce 1 (by omega)) H.me.hd.lt (hc FR hr hF))
theorem PI.tell2(H:PI RR p T m w F){g:FuncId}{c1 c2:Value}{s':τ}(ho:Own g)(hc:∀FR,RR w T.A FR->(∀i,FR i->F i)->Calls prog g #[p.rv,c1,c2] w fun e w'=>e=.returned (.tuple #[])∧Tld RR s' FR w w'):
  Calls prog 48 #[p.ptr,.func (.func g) #[] #[c1,c2]] w fun e w'=>e=.returned (.tuple #[])∧Led (PI RR p {T with A:=s'} m) F w w':=
 H.told S (fun FR hr hF _=>tell_two ho (H.me.ce 1 (by omega)) H.me.hd.lt (hc FR hr hF))
end
theorem own_of{f:FuncId}{fn:Func}{c:Code}(hf:prog.funcs[f]?=some fn)(hname:(fn.name== "runtime.NumGoroutine")=false)(hb:fn.body=some c):Own f:=fun args w=>by
 have h1:fn.name≠ "runtime.NumGoroutine" :=by simpa using hname
 simp[callFunc,hf,h1,hb]
theorem own_p1:Own 67:=own_of func67 (by kernel_rfl) rfl
theorem own_p2:Own 70:=own_of func70 (by kernel_rfl) rfl
theorem own_p3:Own 71:=own_of func71 (by kernel_rfl) rfl
theorem own_v1:Own 89:=own_of func89 (by kernel_rfl) rfl
theorem own_e1:Own 75:=own_of func75 (by kernel_rfl) rfl
theorem own_t1:Own 78:=own_of func78 (by kernel_rfl) rfl
theorem own_t2:Own 79:=own_of func79 (by kernel_rfl) rfl
theorem own_u1:Own 49:=own_of func49 (by kernel_rfl) rfl
theorem own_r1:Own 80:=own_of func80 (by kernel_rfl) rfl
end
section
open Go.Maps Go.Proofs.Tryz Go.RowKit
theorem blk1(w:World)(u:Value)(t:TypeId):Blk (w.alloc (.cells #[u] t)) w.heap.size 1 (fun _=>u):=Blk.new w #[u] t 1 (fun _=>u) _ rfl rfl (fun i hi=>by
 match i,hi with
 |0,_=>rfl)
theorem alloc_size(w:World)(o:Obj):(w.alloc o).heap.size=w.heap.size+1:=Array.size_push (xs:=w.heap) o
theorem box2(w:World)(u1 u2:Value)(t1 t2:TypeId):((w.alloc (.cells #[u1] t1)).alloc (.cells #[u2] t2)).cell? ⟨w.heap.size,0,none⟩=some u1∧((w.alloc (.cells #[u1] t1)).alloc (.cells #[u2] t2)).cell? ⟨w.heap.size+1,0,none⟩=some u2∧((w.alloc (.cells #[u1] t1)).alloc (.cells #[u2] t2)).heap.size=w.heap.size+2∧Fr NoF w ((w.alloc (.cells #[u1] t1)).alloc (.cells #[u2] t2)):=by
 have h1:=(blk1 w u1 t1).alloc (.cells #[u2] t2);have h2:=blk1 (w.alloc (.cells #[u1] t1)) u2 t2;have hs:=alloc_size w (.cells #[u1] t1);rw[hs]at h2;exact⟨h1.cell (by omega),h2.cell (by omega),by rw[alloc_size,alloc_size],((Fr.refl NoF w).alloc _).alloc _⟩
theorem box1(w:World)(u1:Value)(t1:TypeId):(w.alloc (.cells #[u1] t1)).cell? ⟨w.heap.size,0,none⟩=some u1∧(w.alloc (.cells #[u1] t1)).heap.size=w.heap.size+1∧Fr NoF w (w.alloc (.cells #[u1] t1)):=
 ⟨(blk1 w u1 t1).cell (by omega),alloc_size _ _,(Fr.refl NoF w).alloc _⟩
section
variable{τ:Type}{P:Adv τ}{RR:World->τ->(Nat->Prop)->Prop}{ok:Nat->τ->(Nat->Nat)->(Nat->Bool)->Prop}{p:PP}(S:RepSys P RR p.pb p.rv p.n ok){w w':World}{T:PT τ}{m:Nat}{F:Nat->Prop}
include S
theorem remove_calls(H:PI RR p T m w F)(hm:m<80000){k:Nat}(hk:k<p.n)(hE:T.E k=false){pg:Nat->Nat}{ev:Nat->Bool}(ho:ok m T.A pg ev)(h0:¬pg k=0):Calls prog 51 #[p.ptr,.int .i64 k] w fun e w'=>e=.returned (.tuple #[])∧
  Led (PI RR p {T with f:=upd T.f k zF,pl:=updO T.pl (T.f k).id (some (-1)),E:=updB T.E k true,I:=updB T.I k false,A:=P.remove T.A k} (m+1)) F w w':=by
 obtain⟨b1,b2,b3⟩:=box1 w (.int .i64 k) 3;have H1:=H.fr0 S b3;have lb:=H1.me.hd.lt;have hlt:=H.lt S;have KV:=Hd (vacate_calls H1.me (by omega) hk hE)
 have KT:Hid (∀w3 F3,PI RR p {T with f:=upd T.f k zF,pl:=updO T.pl (T.f k).id (some (-1)),E:=updB T.E k true,I:=updB T.I k false} (m+1) w3 F3->w3.cell? ⟨w.heap.size,0,none⟩=some (.int .i64 k)->w.heap.size<w3.heap.size->¬F3 w.heap.size->
  Calls prog 48 #[p.ptr,.func (.func 80) #[] #[.pointer (some ⟨w.heap.size,0,none⟩)]] w3 fun e w'=>e=.returned (.tuple #[])∧Led (PI RR p {T with f:=upd T.f k zF,pl:=updO T.pl (T.f k).id (some (-1)),E:=updB T.E k true,I:=updB T.I k false,A:=P.remove T.A k} (m+1)) F3 w3 w'):=
  fun w3 F3 h3 q1 q2 q3=>h3.tell1 S own_r1 (fun FR hr hF=>S.rem hr (S.more ho (Nat.le_succ m)) (by omega) hk h0 q1 q2 (fun q=>q3 (hF _ q)) (.inr rfl))
 have KS:Hid (∀w2,MP w2 p (upd T.f k zF) (updO T.pl (T.f k).id (some (-1))) (updB T.E k true) (updB T.I k false) T.sc (m+1)->Fr p.own (w.alloc (.cells #[.int .i64 k] 3)) w2->Led (PI RR p {T with f:=upd T.f k zF,pl:=updO T.pl (T.f k).id (some (-1)),E:=updB T.E k true,I:=updB T.I k false} (m+1)) F (w.alloc (.cells #[.int .i64 k] 3)) w2):=
  fun w2 h g=>H1.set h g (by omega) S
 have hno:¬p.own w.heap.size:=fun q=>by have:=hlt _ (H.own _ q);omega
 have hnF:¬F w.heap.size:=fun q=>by have:=hlt _ q;omega
 generalize p.n=n at*;unfold PP.ptr at*;clear H H1 ho;have B1:=Hd b1;have HB3:=Hd b3;clear b3 hlt;go_enter func51,ntmps51
 go_wp2_with fail
 refine KV.out.mono ?_;rintro e w2⟨rfl,h2,g2⟩;obtain⟨F2,h3,g3,q3⟩:=KS.out w2 h2 g2;have hs2:=g3.size;have x1:w2.cell? ⟨w.heap.size,0,none⟩=some (.int .i64 k):=by rw[g3.cell (p:=⟨w.heap.size,0,none⟩) (by show w.heap.size<_;omega) hnF];exact B1.out
 have KC:=Hd (KT.out w2 F2 h3 x1 (by omega) (fun q=>(q3 _ q).elim hnF (fun q=>by omega)));have G3:=Hd g3;have Q3:=Hd q3;clear h2 g2 h3 g3 q3 x1
 go_wp2_with fail
 refine KC.out.mono ?_;rintro e w3⟨rfl,h4⟩;have H4:=Hd h4;clear h4;go_wp2;go_returns;exact⟨rfl,Led.trans (R:=fun _ _=>True) (HB3.out.mono (fun _ q=>q.elim)) (fun i q=>.inl q) (Led.trans (R:=fun _ _=>True) G3.out Q3.out H4.out)⟩
theorem enter_calls(H:PI RR p T m w F)(hm:m<80000){k id:Nat}(hk:k<p.n)(h1:1<=id)(hu:id<4294967296){pg:Nat->Nat}{ev:Nat->Bool}(ho:ok m T.A pg ev)(h0:pg k=0)(hno:∀i,i<p.n->¬pg i=id)(hm1:1<=m):Calls prog 46 #[p.ptr,.int .i64 k,.int .u32 id] w fun e w'=>e=.returned (.tuple #[])∧
  Led (PI RR p {T with f:=upd T.f k ⟨id,0,1,false⟩,pl:=updO T.pl id (some k),E:=updB T.E k false,A:=P.access T.A k id} (m+1)) F w w':=by
 obtain⟨b1,b2,b3,b4⟩:=box2 w (.int .i64 k) (.int .u32 id) 3 32;have H1:=H.fr0 S b4;have lb:=H1.me.hd.lt;have lf:=H1.me.fr.lt;have hlt:=H.lt S;have c2:((w.alloc (.cells #[.int .i64 k] 3)).alloc (.cells #[.int .u32 id] 32)).cell? ⟨p.pb,2,none⟩=some (.slice (some ⟨p.fb,0,none⟩) p.n p.n):=H1.me.ce 2 (by omega);have hn:=H.me.hn;obtain⟨e0,e1,e2,e3⟩:=H1.me.cf hk;have z0:=H1.me.fr.frozen (k*4);have z1:=H1.me.fr.frozen (k*4+1);have z2:=H1.me.fr.frozen (k*4+2);have z3:=H1.me.fr.frozen (k*4+3);have hnF1:¬F w.heap.size:=fun q=>by have:=hlt _ q;omega
 have hnF2:¬F (w.heap.size+1):=fun q=>by have:=hlt _ q;omega
 have HF:=Hd H1;have HU:=Hd hu;generalize(T.f k).id=xi at*;generalize(T.f k).val=xv at*;generalize(T.f k).pins=xp at*;generalize(T.f k).dirty=xd at*;have B4:=Hd b4
 have KA:Hid (∀wA,wA=(((((((w.alloc (.cells #[.int .i64 k] 3)).alloc (.cells #[.int .u32 id] 32)).setCell ⟨p.fb,k*4,none⟩ (.int .u32 id)).setCell ⟨p.fb,k*4+1,none⟩ (.int .u64 0)).setCell ⟨p.fb,k*4+2,none⟩ (.int .i64 1)).setCell ⟨p.fb,k*4+3,none⟩ (.bool false)).drew)->
   MP wA p (upd T.f k ⟨id,0,1,false⟩) T.pl T.E T.I T.sc m∧Fr p.own ((w.alloc (.cells #[.int .i64 k] 3)).alloc (.cells #[.int .u32 id] 32)) wA):=fun wA hA=>by
  obtain⟨q1,q2⟩:=H1.me.put4 hk ⟨id,0,1,false⟩ ⟨hu,by show 0<_;omega,hm1⟩ rfl;subst hA;exact⟨q1.fr0 ((Fr.refl NoF _).drew),(q2.drew).mono (fun i q=>.inr (.inl q))⟩
 have KT:Hid (∀w3 F3,PI RR p {T with f:=upd T.f k ⟨id,0,1,false⟩,pl:=updO T.pl id (some k),E:=updB T.E k false} (m+1) w3 F3->w3.cell? ⟨w.heap.size,0,none⟩=some (.int .i64 k)->w3.cell? ⟨w.heap.size+1,0,none⟩=some (.int .u32 id)->w.heap.size+1<w3.heap.size->¬F3 w.heap.size->¬F3 (w.heap.size+1)->
  Calls prog 48 #[p.ptr,.func (.func 75) #[] #[.pointer (some ⟨w.heap.size,0,none⟩),.pointer (some ⟨w.heap.size+1,0,none⟩)]] w3 fun e w'=>e=.returned (.tuple #[])∧Led (PI RR p {T with f:=upd T.f k ⟨id,0,1,false⟩,pl:=updO T.pl id (some k),E:=updB T.E k false,A:=P.access T.A k id} (m+1)) F3 w3 w'):=
  fun w3 F3 h3 q1 q2 q3 q4 q5=>h3.tell2 S own_e1 (fun FR hr hF=>S.acc hr (S.more ho (Nat.le_succ m)) (by omega) h1 hu hk (.inr ⟨h0,hno⟩) q1 q2 (by omega) q3 (fun q=>q4 (hF _ q)) (fun q=>q5 (hF _ q)) (.inr (.inl rfl)))
 have KS:Hid (∀w3,MP w3 p (upd T.f k ⟨id,0,1,false⟩) (updO T.pl id (some k)) (updB T.E k false) T.I T.sc (m+1)->Fr p.own ((w.alloc (.cells #[.int .i64 k] 3)).alloc (.cells #[.int .u32 id] 32)) w3->Led (PI RR p {T with f:=upd T.f k ⟨id,0,1,false⟩,pl:=updO T.pl id (some k),E:=updB T.E k false} (m+1)) F ((w.alloc (.cells #[.int .i64 k] 3)).alloc (.cells #[.int .u32 id] 32)) w3):=
  fun w3 h g=>H1.set h g (by omega) S
 have hno1:¬p.own w.heap.size:=fun q=>hnF1 (H.own _ q)
 have hno2:¬p.own (w.heap.size+1):=fun q=>hnF2 (H.own _ q)
 generalize hw2:((w.alloc (.cells #[.int .i64 k] 3)).alloc (.cells #[.int .u32 id] 32))=w2 at*;have hbn:w.heap.size+1<w2.heap.size:=by omega
 unfold PP.ptr at*;clear H H1 ho hlt b4 hu S HF hno h0 b3;go_enter func46,ntmps46
 go_wp2_with fail
 try rw[hw2]
 clear hw2
 go_region
 all_goals
  go_wp2_with fail
  obtain⟨mA,gA⟩:=KA.out _ rfl;generalize((((w2.setCell ⟨p.fb,k*4,none⟩ (.int .u32 id)).setCell ⟨p.fb,k*4+1,none⟩ (.int .u64 0)).setCell ⟨p.fb,k*4+2,none⟩ (.int .i64 1)).setCell ⟨p.fb,k*4+3,none⟩ (.bool false)).drew=wA at mA gA⊢;clear KA;obtain⟨wB,rB,hB,gB⟩:=(mA.fr0 ((Fr.refl NoF wA).drew)).put (by omega) HU.out (k:Int);have x3:wA.cell? ⟨p.pb,3,none⟩=some (.map (some p.mb)):=mA.ce 3 (by omega);have xl:=mA.hd.lt;have y1:wA.cell? ⟨w.heap.size,0,none⟩=some (.int .i64 k):=by rw[gA.cell (p:=⟨w.heap.size,0,none⟩) (by show w.heap.size<_;omega) hno1];exact b1
  have y2:wA.cell? ⟨w.heap.size+1,0,none⟩=some (.int .u32 id):=by rw[gA.cell (p:=⟨w.heap.size+1,0,none⟩) (by show w.heap.size+1<_;omega) hno2];exact b2
  have gAB:Fr p.own w2 wB:=gA.trans (((Fr.refl NoF wA).drew.mono (fun _ q=>q.elim)).trans (gB.mono (fun i q=>.inr (.inr (.inl q)))) (fun i q=>.inl q)) (fun i q=>.inl q);clear mA gA gB c2 e0 e1 e2 e3 z0 z1 z2 z3 lb lf
  go_region
  all_goals
   clear rB x3 xl y1 y2
   go_wp2_with fail
   have lb:=hB.hd.lt;have y1:wB.cell? ⟨w.heap.size,0,none⟩=some (.int .i64 k):=by rw[gAB.cell (p:=⟨w.heap.size,0,none⟩) (by show w.heap.size<_;omega) hno1];exact b1
   have HB:=Hd hB;have GB:=Hd gAB;clear hB gAB
   go_still_tail 4,(by kernel_rfl)
   go_wp2_with fail
   refine(mp_dropE (HB.out.fr0 ((Fr.refl NoF wB).drew)) hk).mono ?_;rintro e wC⟨rfl,hC,gC⟩;have gAC:Fr p.own w2 wC:=GB.out.trans (((Fr.refl NoF wB).drew.mono (fun _ q=>q.elim)).trans gC (fun i q=>.inl q)) (fun i q=>.inl q);obtain⟨F3,h3,g3,q3⟩:=KS.out wC hC gAC;have z1:wC.cell? ⟨w.heap.size,0,none⟩=some (.int .i64 k):=by rw[gAC.cell (p:=⟨w.heap.size,0,none⟩) (by show w.heap.size<_;omega) hno1];exact b1
   have z2:wC.cell? ⟨w.heap.size+1,0,none⟩=some (.int .u32 id):=by rw[gAC.cell (p:=⟨w.heap.size+1,0,none⟩) (by show w.heap.size+1<_;omega) hno2];exact b2
   have hs2:=gAC.size;have KC:=Hd (KT.out wC F3 h3 z1 z2 (by omega) (fun q=>(q3 _ q).elim hnF1 (fun q=>by omega)) (fun q=>(q3 _ q).elim hnF2 (fun q=>by omega)));have G3:=Hd g3;have Q3:=Hd q3;clear hC gC gAC h3 g3 q3 z1 z2 KT KS HB GB y1
   go_wp2_with fail
   refine KC.out.mono ?_;rintro e w3⟨rfl,h4⟩;have H4:=Hd h4;clear h4;go_wp2;go_returns;exact⟨rfl,Led.trans (R:=fun _ _=>True) (B4.out.mono (fun _ q=>q.elim)) (fun i q=>.inl q) (Led.trans (R:=fun _ _=>True) G3.out Q3.out H4.out)⟩
end
section
variable{τ:Type}{P:Adv τ}{RR:World->τ->(Nat->Prop)->Prop}{ok:Nat->τ->(Nat->Nat)->(Nat->Bool)->Prop}{p:PP}(S:RepSys P RR p.pb p.rv p.n ok){w w':World}{T:PT τ}{m:Nat}{F:Nat->Prop}
include S
theorem touch_zero(H:PI RR p T m w F)(hm:m<80000){k:Nat}(hk:k<p.n)(h1:1<=(T.f k).id){pg:Nat->Nat}{ev:Nat->Bool}(ho:ok m T.A pg ev)(h0:pg k=(T.f k).id)(hp:(T.f k).pins=0):Calls prog 50 #[p.ptr,.int .i64 k] w fun e w'=>e=.returned (.tuple #[])∧
  Led (PI RR p {T with f:=upd T.f k {T.f k with pins:=(T.f k).pins+1},I:=updB T.I k false,A:=P.set (P.access T.A k (T.f k).id) k false} (m+2)) F w w':=by
 obtain⟨b1,b3,b4⟩:=box1 w (.int .i64 k) 3;have H1:=H.fr0 S b4;have lb:=H1.me.hd.lt;have lf:=H1.me.fr.lt;have hlt:=H.lt S;have c2:(w.alloc (.cells #[.int .i64 k] 3)).cell? ⟨p.pb,2,none⟩=some (.slice (some ⟨p.fb,0,none⟩) p.n p.n):=H1.me.ce 2 (by omega);have hn:=H.me.hn;obtain⟨e0,e1,e2,e3⟩:=H1.me.cf hk;have hu:=(H.me.bd.2 k).1;have hbf:=H.me.bd.2 k;have hnF1:¬F w.heap.size:=fun q=>by have:=hlt _ q;omega
 have hnF2:¬F (w.heap.size+1):=fun q=>by have:=hlt _ q;omega
 have okA:=S.okOld ho (by omega) h1 hk h0;have hpg:¬pg k=0:=by omega
 have KT1:Hid (∀w3,Fr NoF w w3->w3.cell? ⟨w.heap.size,0,none⟩=some (.int .i64 k)->w3.cell? ⟨w.heap.size+1,0,none⟩=some (.int .u32 (T.f k).id)->w.heap.size+1<w3.heap.size->
  Calls prog 48 #[p.ptr,.func (.func 78) #[] #[.pointer (some ⟨w.heap.size,0,none⟩),.pointer (some ⟨w.heap.size+1,0,none⟩)]] w3 fun e w'=>e=.returned (.tuple #[])∧Led (PI RR p {T with A:=P.access T.A k (T.f k).id} m) F w3 w'):=
  fun w3 g q1 q2 q3=>(H.fr0 S g).tell2 S own_t1 (fun FR hr hF=>S.acc hr ho (by omega) h1 hu hk (.inl h0) q1 q2 (by omega) q3 (fun q=>hnF1 (hF _ q)) (fun q=>hnF2 (hF _ q)) (.inr (.inr rfl)))
 have KP:Hid (∀w3 F3 z,PI RR p {T with I:=updB T.I k false,A:=P.set (P.access T.A k (T.f k).id) k false} m w3 F3->z=(((T.f k).pins+1:Nat):Int)->Led (PI RR p {T with f:=upd T.f k {T.f k with pins:=(T.f k).pins+1},I:=updB T.I k false,A:=P.set (P.access T.A k (T.f k).id) k false} (m+2)) F3 w3 (w3.setCell ⟨p.fb,k*4+2,none⟩ (.int .i64 z)).drew):=fun w3 F3 z h3 hz=>by
  subst hz;obtain⟨q1,q2⟩:=h3.me.put1 (m':=m+2) (j:=2) hk {T.f k with pins:=(T.f k).pins+1} (.int .i64 (((T.f k).pins+1:Nat):Int)) (frV_setp T.f k _) (by omega) ⟨hbf.1,hbf.2.1,by show(T.f k).pins+1<=m+2;omega⟩;exact h3.set (q1.fr0 ((Fr.refl NoF _).drew)) ((q2.drew).mono (fun i q=>.inr (.inl q))) (by omega) S
 have KD:Hid (∀w3 F3,PI RR p {T with A:=P.access T.A k (T.f k).id} m w3 F3->Calls prog 74 #[.pointer (some ⟨p.pb,7,none⟩),.int .i64 k] w3 fun e w'=>e=.returned (.tuple #[])∧Led (PI RR p {T with I:=updB T.I k false,A:=P.access T.A k (T.f k).id} m) F3 w3 w'):=fun w3 F3 h3=>by
  refine(mp_dropI h3.me hk).mono ?_;rintro e w4⟨he,h4,g4⟩;exact⟨he,h3.set h4 g4 (Nat.le_refl _) S⟩
 have KT2:Hid (∀w3 F3,PI RR p {T with I:=updB T.I k false,A:=P.access T.A k (T.f k).id} m w3 F3->w3.cell? ⟨w.heap.size,0,none⟩=some (.int .i64 k)->w.heap.size<w3.heap.size->¬F3 w.heap.size->
  Calls prog 48 #[p.ptr,.func (.func 79) #[] #[.pointer (some ⟨w.heap.size,0,none⟩)]] w3 fun e w'=>e=.returned (.tuple #[])∧Led (PI RR p {T with I:=updB T.I k false,A:=P.set (P.access T.A k (T.f k).id) k false} m) F3 w3 w'):=
  fun w3 F3 h3 q1 q2 q3=>h3.tell1 S own_t2 (fun FR hr hF=>S.setF hr okA (by omega) hk hpg q1 q2 (fun q=>q3 (hF _ q)))
 have KX:Hid (∀w3 F3 (A:τ) (I:Nat->Bool),PI RR p {T with I:=I,A:=A} m w3 F3->w3.cell? ⟨p.pb,2,none⟩=some (.slice (some ⟨p.fb,0,none⟩) p.n p.n)∧w3.cell? ⟨p.fb,k*4+2,none⟩=some (.int .i64 (T.f k).pins)∧w3.frozen? ⟨p.fb,k*4+2,none⟩=false∧p.pb<w3.heap.size∧p.fb<w3.heap.size):=
  fun w3 F3 A I h3=>⟨h3.me.ce 2 (by omega),(h3.me.cf hk).2.2.1,h3.me.fr.frozen _,h3.me.hd.lt,h3.me.fr.lt⟩
 have HS:Hid (∀(A:τ) (I:Nat->Bool) w3 F3,PI RR p {T with I:=I,A:=A} m w3 F3->PI RR p {T with I:=I,A:=A} m w3.drew F3):=fun A I w3 F3 h3=>h3.fr0 S ((Fr.refl NoF _).drew)
 have hxpm:(T.f k).pins<900000:=by have:=hbf.2.2;omega
 have hpI:(((T.f k).pins:Nat):Int)=0:=by omega
 generalize hxi:(T.f k).id=xi at*;generalize hxv:(T.f k).val=xv at*;generalize hxp:(T.f k).pins=xp at*;generalize hxd:(T.f k).dirty=xd at*;have B4:=Hd b4;generalize hw2:(w.alloc (.cells #[.int .i64 k] 3))=w2 at*;unfold PP.ptr at*;clear H H1 ho hlt b4 h0 okA S hbf hxi hxv hxp hxd hu hp;go_enter func50,ntmps50
 go_wp2_with fail
 try rw[hw2]
 clear hw2;have fN:Fr NoF w2 (w2.alloc (.cells #[.int .u32 0] 32)):=(Fr.refl NoF w2).alloc _;have d2:(w2.alloc (.cells #[.int .u32 0] 32)).cell? ⟨p.pb,2,none⟩=some (.slice (some ⟨p.fb,0,none⟩) p.n p.n):=by rw[fN.cell (p:=⟨p.pb,2,none⟩) lb id];exact c2
 have d0:(w2.alloc (.cells #[.int .u32 0] 32)).cell? ⟨p.fb,k*4,none⟩=some (.int .u32 xi):=by rw[fN.cell (p:=⟨p.fb,k*4,none⟩) lf id];exact e0
 have d1:(w2.alloc (.cells #[.int .u32 0] 32)).cell? ⟨w.heap.size,0,none⟩=some (.int .i64 k):=by rw[fN.cell (p:=⟨w.heap.size,0,none⟩) (by show w.heap.size<_;omega) id];exact b1
 have dl:=alloc_size w2 (.cells #[.int .u32 0] 32);clear fN
 go_region
 all_goals
  go_wp2_with fail
  clear d0 d1 d2 dl;have fA:Fr NoF w2 (w2.alloc (.cells #[.int .u32 xi] 32)).drew:=((Fr.refl NoF w2).alloc _).drew;have gA:Fr NoF w (w2.alloc (.cells #[.int .u32 xi] 32)).drew:=B4.out.trans fA (fun _ q=>q.elim);have x1:(w2.alloc (.cells #[.int .u32 xi] 32)).drew.cell? ⟨w.heap.size,0,none⟩=some (.int .i64 k):=by rw[fA.cell (p:=⟨w.heap.size,0,none⟩) (by show w.heap.size<_;omega) id];exact b1
  have x2:(w2.alloc (.cells #[.int .u32 xi] 32)).drew.cell? ⟨w.heap.size+1,0,none⟩=some (.int .u32 xi):=by
   have:=((blk1 w2 (.int .u32 xi) 32).drew).cell (i:=0) (by omega);rw[b3]at this;exact this
  have x3:(w2.alloc (.cells #[.int .u32 xi] 32)).drew.heap.size=w2.heap.size+1:=alloc_size w2 _;generalize(w2.alloc (.cells #[.int .u32 xi] 32)).drew=wA at fA gA x1 x2 x3⊢;have KC:=Hd (KT1.out wA gA x1 x2 (by omega));have GA:=Hd gA;clear KT1 fA gA x2;refine KC.out.mono ?_;clear KC;rintro e w3⟨rfl,F3,h3,g3,q3⟩;obtain⟨y1,y2,y3,y4,y5⟩:=KX.out w3 F3 _ _ h3;have y6:w3.cell? ⟨w.heap.size,0,none⟩=some (.int .i64 k):=by rw[g3.cell (p:=⟨w.heap.size,0,none⟩) (by show w.heap.size<_;omega) hnF1];exact x1
  have y7:=g3.size;have H3:=Hd h3;have G3:=Hd g3;have Q3:=Hd q3;have n3:¬F3 w.heap.size:=fun q=>(q3 _ q).elim hnF1 (fun q=>by omega)
  clear h3 g3 q3 x1 c2 e0 e1 e2 e3 lb lf
  go_wp2_with fail
  rw[hpI]at y2
  go_region
  all_goals
   go_wp2_with fail
   have y6d:w3.drew.cell? ⟨w.heap.size,0,none⟩=some (.int .i64 k):=y6;have y4d:p.pb<w3.drew.heap.size:=y4;have y7d:w2.heap.size+1<=w3.drew.heap.size:=by have:w3.drew.heap.size=w3.heap.size:=rfl;omega
   have H3d:=Hd (HS.out _ _ _ _ H3.out);have fD:Fr F3 w3 w3.drew:=(Fr.refl _ w3).drew;have FD:=Hd fD;generalize w3.drew=w3d at y6d y4d y7d H3d FD⊢;clear fD y1 y2 y3 y4 y5 y6
   go_still_tail 4,(by kernel_rfl)
   go_wp2_with fail
   refine(KD.out _ F3 (HS.out _ _ _ _ H3d.out)).mono ?_;rintro e w4⟨rfl,F4,h4,g4,q4⟩;obtain⟨z1,z2,z3,z4,z5⟩:=KX.out w4 F4 _ _ h4;have z6:w4.cell? ⟨w.heap.size,0,none⟩=some (.int .i64 k):=by rw[g4.cell (p:=⟨w.heap.size,0,none⟩) (by show w.heap.size<w3d.heap.size;omega) n3];exact y6d
   have z7:=g4.size;have z8:w.heap.size<w4.heap.size:=Nat.lt_of_lt_of_le (by show w.heap.size<w3d.heap.size;omega) z7;have H4:=Hd h4;have G4:=Hd g4;have Q4:=Hd q4;have n4:¬F4 w.heap.size:=fun q=>(q4 _ q).elim n3 (fun q=>by have:w3d.heap.size<=w.heap.size:=q;omega)
   clear h4 g4 q4
   go_wp2_with fail
   refine(KT2.out w4 F4 H4.out z6 z8 n4).mono ?_;rintro e w5⟨rfl,F5,h5,g5,q5⟩;obtain⟨u1,u2,u3,u4,u5⟩:=KX.out w5 F5 _ _ h5;have u6:w5.cell? ⟨w.heap.size,0,none⟩=some (.int .i64 k):=by rw[g5.cell (p:=⟨w.heap.size,0,none⟩) z8 n4];exact z6
   have H5:=Hd h5;have G5:=Hd g5;have Q5:=Hd q5;clear h5 g5 q5 z1 z2 z3 z4 z5 z6;have hcw:IntKind.i64.wrap ((xp:Int)+1)=(xp:Int)+1:=IntWalk.i64_in _ (by omega)
   go_wp2_with fail
   go_region
   all_goals
    go_wp2;go_returns;refine⟨rfl,Led.trans (R:=fun _ _=>True) (GA.out.mono (fun _ q=>q.elim)) (fun i q=>.inl q) (Led.trans (R:=fun _ _=>True) G3.out Q3.out (Led.trans (R:=fun _ _=>True) (FD.out.trans (((Fr.refl _ w3d).drew).trans G4.out (fun i q=>.inl q)) (fun i q=>.inl q)) (fun i q=>(Q4.out i q).imp id (fun q=>by have:w3d.heap.size<=i:=q;have:=FD.out.size;omega)) (Led.trans (R:=fun _ _=>True) G5.out Q5.out (KP.out w5 F5 _ H5.out ?_))))⟩
    first|rfl|omega|simp
theorem touch_more(H:PI RR p T m w F)(hm:m<80000){k:Nat}(hk:k<p.n)(h1:1<=(T.f k).id){pg:Nat->Nat}{ev:Nat->Bool}(ho:ok m T.A pg ev)(h0:pg k=(T.f k).id)(hp:¬(T.f k).pins=0)(hpm:(T.f k).pins<m):Calls prog 50 #[p.ptr,.int .i64 k] w fun e w'=>e=.returned (.tuple #[])∧
  Led (PI RR p {T with f:=upd T.f k {T.f k with pins:=(T.f k).pins+1},A:=P.access T.A k (T.f k).id} (m+2)) F w w':=by
 obtain⟨b1,b3,b4⟩:=box1 w (.int .i64 k) 3;have H1:=H.fr0 S b4;have lb:=H1.me.hd.lt;have lf:=H1.me.fr.lt;have hlt:=H.lt S;have c2:(w.alloc (.cells #[.int .i64 k] 3)).cell? ⟨p.pb,2,none⟩=some (.slice (some ⟨p.fb,0,none⟩) p.n p.n):=H1.me.ce 2 (by omega);have hn:=H.me.hn;obtain⟨e0,e1,e2,e3⟩:=H1.me.cf hk;have hu:=(H.me.bd.2 k).1;have hbf:=H.me.bd.2 k;have hnF1:¬F w.heap.size:=fun q=>by have:=hlt _ q;omega
 have hnF2:¬F (w.heap.size+1):=fun q=>by have:=hlt _ q;omega
 have okA:=S.okOld ho (by omega) h1 hk h0;have hpg:¬pg k=0:=by omega
 have KT1:Hid (∀w3,Fr NoF w w3->w3.cell? ⟨w.heap.size,0,none⟩=some (.int .i64 k)->w3.cell? ⟨w.heap.size+1,0,none⟩=some (.int .u32 (T.f k).id)->w.heap.size+1<w3.heap.size->
  Calls prog 48 #[p.ptr,.func (.func 78) #[] #[.pointer (some ⟨w.heap.size,0,none⟩),.pointer (some ⟨w.heap.size+1,0,none⟩)]] w3 fun e w'=>e=.returned (.tuple #[])∧Led (PI RR p {T with A:=P.access T.A k (T.f k).id} m) F w3 w'):=
  fun w3 g q1 q2 q3=>(H.fr0 S g).tell2 S own_t1 (fun FR hr hF=>S.acc hr ho (by omega) h1 hu hk (.inl h0) q1 q2 (by omega) q3 (fun q=>hnF1 (hF _ q)) (fun q=>hnF2 (hF _ q)) (.inr (.inr rfl)))
 have KP:Hid (∀w3 F3 z,PI RR p {T with A:=P.access T.A k (T.f k).id} m w3 F3->z=(((T.f k).pins+1:Nat):Int)->Led (PI RR p {T with f:=upd T.f k {T.f k with pins:=(T.f k).pins+1},A:=P.access T.A k (T.f k).id} (m+2)) F3 w3 (w3.setCell ⟨p.fb,k*4+2,none⟩ (.int .i64 z)).drew):=fun w3 F3 z h3 hz=>by
  subst hz;obtain⟨q1,q2⟩:=h3.me.put1 (m':=m+2) (j:=2) hk {T.f k with pins:=(T.f k).pins+1} (.int .i64 (((T.f k).pins+1:Nat):Int)) (frV_setp T.f k _) (by omega) ⟨hbf.1,hbf.2.1,by show(T.f k).pins+1<=m+2;omega⟩;exact h3.set (q1.fr0 ((Fr.refl NoF _).drew)) ((q2.drew).mono (fun i q=>.inr (.inl q))) (by omega) S
 have KX:Hid (∀w3 F3 (A:τ) (I:Nat->Bool),PI RR p {T with I:=I,A:=A} m w3 F3->w3.cell? ⟨p.pb,2,none⟩=some (.slice (some ⟨p.fb,0,none⟩) p.n p.n)∧w3.cell? ⟨p.fb,k*4+2,none⟩=some (.int .i64 (T.f k).pins)∧w3.frozen? ⟨p.fb,k*4+2,none⟩=false∧p.pb<w3.heap.size∧p.fb<w3.heap.size):=
  fun w3 F3 A I h3=>⟨h3.me.ce 2 (by omega),(h3.me.cf hk).2.2.1,h3.me.fr.frozen _,h3.me.hd.lt,h3.me.fr.lt⟩
 have HS:Hid (∀(A:τ) (I:Nat->Bool) w3 F3,PI RR p {T with I:=I,A:=A} m w3 F3->PI RR p {T with I:=I,A:=A} m w3.drew F3):=fun A I w3 F3 h3=>h3.fr0 S ((Fr.refl NoF _).drew)
 have hxpm:(T.f k).pins<900000:=by have:=hbf.2.2;omega
 have hpI:((((T.f k).pins:Nat):Int)==0)=false:=by simp<;>exact hp
 generalize hxi:(T.f k).id=xi at*;generalize hxv:(T.f k).val=xv at*;generalize hxp:(T.f k).pins=xp at*;generalize hxd:(T.f k).dirty=xd at*;have B4:=Hd b4;generalize hw2:(w.alloc (.cells #[.int .i64 k] 3))=w2 at*;unfold PP.ptr at*;clear H H1 ho hlt b4 h0 okA S hbf hxi hxv hxp hxd hu hp;go_enter func50,ntmps50
 go_wp2_with fail
 try rw[hw2]
 clear hw2;have fN:Fr NoF w2 (w2.alloc (.cells #[.int .u32 0] 32)):=(Fr.refl NoF w2).alloc _;have d2:(w2.alloc (.cells #[.int .u32 0] 32)).cell? ⟨p.pb,2,none⟩=some (.slice (some ⟨p.fb,0,none⟩) p.n p.n):=by rw[fN.cell (p:=⟨p.pb,2,none⟩) lb id];exact c2
 have d0:(w2.alloc (.cells #[.int .u32 0] 32)).cell? ⟨p.fb,k*4,none⟩=some (.int .u32 xi):=by rw[fN.cell (p:=⟨p.fb,k*4,none⟩) lf id];exact e0
 have d1:(w2.alloc (.cells #[.int .u32 0] 32)).cell? ⟨w.heap.size,0,none⟩=some (.int .i64 k):=by rw[fN.cell (p:=⟨w.heap.size,0,none⟩) (by show w.heap.size<_;omega) id];exact b1
 have dl:=alloc_size w2 (.cells #[.int .u32 0] 32);clear fN
 go_region
 all_goals
  go_wp2_with fail
  clear d0 d1 d2 dl;have fA:Fr NoF w2 (w2.alloc (.cells #[.int .u32 xi] 32)).drew:=((Fr.refl NoF w2).alloc _).drew;have gA:Fr NoF w (w2.alloc (.cells #[.int .u32 xi] 32)).drew:=B4.out.trans fA (fun _ q=>q.elim);have x1:(w2.alloc (.cells #[.int .u32 xi] 32)).drew.cell? ⟨w.heap.size,0,none⟩=some (.int .i64 k):=by rw[fA.cell (p:=⟨w.heap.size,0,none⟩) (by show w.heap.size<_;omega) id];exact b1
  have x2:(w2.alloc (.cells #[.int .u32 xi] 32)).drew.cell? ⟨w.heap.size+1,0,none⟩=some (.int .u32 xi):=by
   have:=((blk1 w2 (.int .u32 xi) 32).drew).cell (i:=0) (by omega);rw[b3]at this;exact this
  have x3:(w2.alloc (.cells #[.int .u32 xi] 32)).drew.heap.size=w2.heap.size+1:=alloc_size w2 _;generalize(w2.alloc (.cells #[.int .u32 xi] 32)).drew=wA at fA gA x1 x2 x3⊢;have KC:=Hd (KT1.out wA gA x1 x2 (by omega));have GA:=Hd gA;clear KT1 fA gA x2;refine KC.out.mono ?_;clear KC;rintro e w3⟨rfl,F3,h3,g3,q3⟩;obtain⟨y1,y2,y3,y4,y5⟩:=KX.out w3 F3 _ _ h3;have y6:w3.cell? ⟨w.heap.size,0,none⟩=some (.int .i64 k):=by rw[g3.cell (p:=⟨w.heap.size,0,none⟩) (by show w.heap.size<_;omega) hnF1];exact x1
  have y7:=g3.size;have H3:=Hd h3;have G3:=Hd g3;have Q3:=Hd q3;have n3:¬F3 w.heap.size:=fun q=>(q3 _ q).elim hnF1 (fun q=>by omega)
  clear h3 g3 q3 x1 c2 e0 e1 e2 e3 lb lf
  go_wp2_with fail
  go_region
  all_goals
   go_wp2_with fail
   have hcw:IntKind.i64.wrap ((xp:Int)+1)=(xp:Int)+1:=IntWalk.i64_in _ (by omega);have H3d:=Hd (HS.out _ _ _ _ H3.out);have FD:Hid (Fr F3 w3 w3.drew):=(Fr.refl _ w3).drew;obtain⟨v1,v2,v3,v4,v5⟩:=KX.out w3.drew F3 _ _ H3d.out;have v6:w3.drew.cell? ⟨w.heap.size,0,none⟩=some (.int .i64 k):=y6;generalize w3.drew=w3d at v1 v2 v3 v4 v5 v6 H3d FD⊢;clear y1 y2 y3 y4 y5 y6
   go_region
   all_goals
    go_wp2;go_returns;refine⟨rfl,Led.trans (R:=fun _ _=>True) (GA.out.mono (fun _ q=>q.elim)) (fun i q=>.inl q) (Led.trans (R:=fun _ _=>True) G3.out Q3.out (Led.trans (R:=fun _ _=>True) FD.out (fun i q=>.inl q) (KP.out w3d F3 _ H3d.out ?_)))⟩
    first|rfl|omega|simp
end
end
end Go.Proofs.YtipopinjppjnfaaGreatDoor
