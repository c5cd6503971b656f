/- Part 10. -/
import Derived.Test.YtoenclhimbpfeaaGreatDoorC08
import Derived.Test.YtoenclhimbpfeaaGreatDoorC09
import Derived.StillTailTactics
namespace Go.Proofs.YtoenclhimbpfeaaGreatDoor
set_option linter.all false
set_option maxHeartbeats 16000000
set_option maxRecDepth 100000
section
open Go.Maps Go.Proofs.Tryz Go.RowKit
section
variable{w w':World}{p:PP}{f:Nat->FrS}{pl:Nat->Option Int}{E I:Nat->Bool}{sc m:Nat}
theorem MP.put4(H:MP w p f pl E I sc m){k:Nat}(hk:k<p.n)(x:FrS)(hx:x.id<4294967296∧x.val<18446744073709551616∧x.pins<=m){w':World}(hw:w'=(((w.setCell ⟨p.fb,k*4,none⟩ (.int .u32 (x.id:Nat))).setCell ⟨p.fb,k*4+1,none⟩ (.int .u64 (x.val:Nat))).setCell ⟨p.fb,k*4+2,none⟩ (.int .i64 (x.pins:Nat))).setCell ⟨p.fb,k*4+3,none⟩ (.bool x.dirty)):
  MP w' p (upd f k x) pl E I sc m∧Fr (fun i=>i=p.fb) w w':=by
 subst hw
 have g:Fr (fun i=>i=p.fb) w ((((w.setCell ⟨p.fb,k*4,none⟩ (.int .u32 (x.id:Nat))).setCell ⟨p.fb,k*4+1,none⟩ (.int .u64 (x.val:Nat))).setCell ⟨p.fb,k*4+2,none⟩ (.int .i64 (x.pins:Nat))).setCell ⟨p.fb,k*4+3,none⟩ (.bool x.dirty)):=
  ((((Fr.refl (fun i=>i=p.fb) w).setCell (p:=⟨p.fb,_,none⟩) (.inl rfl) _).setCell (p:=⟨p.fb,_,none⟩) (.inl rfl) _).setCell (p:=⟨p.fb,_,none⟩) (.inl rfl) _).setCell (p:=⟨p.fb,_,none⟩) (.inl rfl) _
 refine⟨H.frs (by rw[<-frV_all];exact(((H.fr.set _ _).set _ _).set _ _).set _ _) g (Nat.le_refl _) (fun i=>?_),g⟩;by_cases e:i=k
 .subst e;rw[upd_same];exact hx
 .rw[upd_other _ _ e];exact H.bd.2 i
theorem MP.put1(H:MP w p f pl E I sc m){k j m':Nat}(hk:k<p.n)(x:FrS)(u:Value)(he:upd (frV f) (k*4+j) u=frV (upd f k x))(hm:m<=m')(hx:x.id<4294967296∧x.val<18446744073709551616∧x.pins<=m'):
  MP (w.setCell ⟨p.fb,k*4+j,none⟩ u) p (upd f k x) pl E I sc m'∧Fr (fun i=>i=p.fb) w (w.setCell ⟨p.fb,k*4+j,none⟩ u):=by
 have g:Fr (fun i=>i=p.fb) w (w.setCell ⟨p.fb,k*4+j,none⟩ u):=(Fr.refl (fun i=>i=p.fb) w).setCell (p:=⟨p.fb,_,none⟩) (.inl rfl) _;refine⟨H.frs (by rw[<-he];exact H.fr.set _ _) g hm (fun i=>?_),g⟩;by_cases e:i=k
 .subst e;rw[upd_same];exact hx
 .rw[upd_other _ _ e];have:=H.bd.2 i;exact⟨this.1,this.2.1,by omega⟩
theorem vacate_calls(H:MP w p f pl E I sc m)(hm:m<900000){k:Nat}(hk:k<p.n)(hE:E k=false):Calls prog 86 #[p.ptr,.int .i64 k] w fun e w'=>e=.returned (.tuple #[])∧
  MP w' p (upd f k zF) (updO pl (f k).id (some (-1))) (updB E k true) (updB I k false) sc (m+1)∧Fr p.own w w':=by
 have c2:w.cell? ⟨p.pb,2,none⟩=some (.slice (some ⟨p.fb,0,none⟩) p.n p.n):=H.ce 2 (by omega);have c3:w.cell? ⟨p.pb,3,none⟩=some (.map (some p.mb)):=H.ce 3 (by omega);obtain⟨cf,_,_,_⟩:=H.cf hk;have hb:=(H.bd.2 k).1;have lb:=H.hd.lt;have lf:=H.fr.lt;have hn:=H.hn;obtain⟨w1,r1,h1,g0⟩:=(H.fr0 ((Fr.refl NoF w).drew)).put hm hb (-1);have g1:Fr (fun i=>i=p.mb) w w1:=((Fr.refl NoF w).drew.mono (fun _ q=>q.elim)).trans g0 (fun i q=>.inl q);have d2:w1.cell? ⟨p.pb,2,none⟩=some (.slice (some ⟨p.fb,0,none⟩) p.n p.n):=h1.ce 2 (by omega);have lb1:=h1.hd.lt;have lf1:=h1.fr.lt;obtain⟨e0,e1,e2,e3⟩:=h1.cf hk;have z0:=h1.fr.frozen (k*4);have z1:=h1.fr.frozen (k*4+1);have z2:=h1.fr.frozen (k*4+2);have z3:=h1.fr.frozen (k*4+3)
 have KP:Hid (∀w2,w2=(((w1.setCell ⟨p.fb,k*4,none⟩ (.int .u32 (zF.id:Nat))).setCell ⟨p.fb,k*4+1,none⟩ (.int .u64 (zF.val:Nat))).setCell ⟨p.fb,k*4+2,none⟩ (.int .i64 (zF.pins:Nat))).setCell ⟨p.fb,k*4+3,none⟩ (.bool zF.dirty)->
  MP w2 p (upd f k zF) (updO pl (f k).id (some (-1))) E I sc (m+1)∧Fr p.own w w2):=fun w2 hw=>by
   obtain⟨q1,q2⟩:=h1.put4 hk zF ⟨by decide,by decide,by show 0<=m+1;omega⟩ hw;exact⟨q1,(g1.mono (fun i q=>.inr (.inr (.inl q)))).trans (q2.mono (fun i q=>.inr (.inl q))) (fun i q=>.inl q)⟩
 have R1:=Hd r1;have HE:=Hd hE;generalize(f k).id=id at*;generalize(f k).val=xv at*;generalize(f k).pins=xp at*;generalize(f k).dirty=xd at*;obtain⟨n,pb,db,fb,mb,rv,ev,eh,eL,iv,ih,iL⟩:=p;unfold PP.ptr
 dsimp only at*
 clear H hE h1 g0 g1 r1 hb;go_enter func86,ntmps86;have r1:=R1.out;go_wp2
 go_region
 all_goals
  clear r1
  go_wp2_with fail
  obtain⟨h2,g2⟩:=KP.out _ rfl;refine(mp_dropI h2 hk).mono ?_;rintro e w3⟨rfl,h3,g3⟩;have H3:=Hd h3;have G3:=Hd (g2.trans g3 (fun i q=>.inl q));have lb3:=h3.hd.lt;clear h2 g2 h3 g3
  go_wp2_with fail
  refine(mp_addE H3.out hk HE.out).mono ?_;rintro e w4⟨rfl,h4,g4⟩;have H4:=Hd h4;have G4:=Hd (G3.out.trans g4 (fun i q=>.inl q));clear h4 g4;go_wp2;go_returns;exact⟨rfl,H4.out,G4.out⟩
theorem clean_no(H:MP w p f pl E I sc m){k:Nat}(hk:k<p.n)(hd:(f k).dirty=false):Calls prog 71 #[p.ptr,.int .i64 k] w fun e w'=>e=.returned (.int .i64 0)∧w=w':=by
 have c2:w.cell? ⟨p.pb,2,none⟩=some (.slice (some ⟨p.fb,0,none⟩) p.n p.n):=H.ce 2 (by omega);obtain⟨c4,c5,c6,c7⟩:=H.cf hk;have hn:=H.hn;have lb:=H.hd.lt;have lf:=H.fr.lt;rw[hd]at c7;generalize(f k).id=xi at*;generalize(f k).val=xv at*;generalize(f k).pins=xp at*;obtain⟨n,pb,db,fb,mb,rv,ev,eh,eL,iv,ih,iL⟩:=p;unfold PP.ptr
 dsimp only at*
 clear H hd;go_enter func71,ntmps71;go_wp2;go_returns;exact⟨rfl,rfl⟩
theorem clean_calls(H:MP w p f pl E I sc m){k:Nat}(hk:k<p.n)(hd:(f k).dirty=true){er:Nat}{R:World->Prop}(hc:∀w0,Fr NoF w w0->Calls prog 94 #[.pointer (some ⟨p.db,0,none⟩),.int .u32 (f k).id,.int .u64 (f k).val] w0 fun e w'=>e=.returned (.int .i64 er)∧R w')
  {m2:Nat}(hR:∀w1,R w1->MP w1 p f pl E I sc m2):Calls prog 71 #[p.ptr,.int .i64 k] w fun e w'=>e=.returned (.int .i64 er)∧∃w1,R w1∧(¬er=0->w'=w1)∧(er=0->w'=w1.setCell ⟨p.fb,k*4+3,none⟩ (.bool false)):=by
 have c0:w.cell? ⟨p.pb,0,none⟩=some (.pointer (some ⟨p.db,0,none⟩)):=H.ce 0 (by omega);have c2:w.cell? ⟨p.pb,2,none⟩=some (.slice (some ⟨p.fb,0,none⟩) p.n p.n):=H.ce 2 (by omega);obtain⟨c4,c5,c6,c7⟩:=H.cf hk;have hn:=H.hn;have lb:=H.hd.lt;have lf:=H.fr.lt;rw[hd]at c7;have HC:=Hd hc
 have KR:Hid (∀w1,R w1->w1.cell? ⟨p.fb,k*4+3,none⟩=some (.bool true)∧w1.frozen? ⟨p.fb,k*4+3,none⟩=false∧p.fb<w1.heap.size):=fun w1 h1=>by
  have:=(hR w1 h1).cf hk;rw[hd]at this;exact⟨this.2.2.2,(hR w1 h1).fr.frozen _,(hR w1 h1).fr.lt⟩
 generalize(f k).id=xi at*;generalize(f k).val=xv at*;generalize(f k).pins=xp at*;obtain⟨n,pb,db,fb,mb,rv,ev,eh,eL,iv,ih,iL⟩:=p;unfold PP.ptr
 dsimp only at*
 clear H hd hc hR;go_enter func71,ntmps71
 go_wp2_with fail
 go_still_tail 12,(by kernel_rfl)
 go_wp2_with fail
 refine(HC.out _ ((Fr.refl NoF w).drew)).mono ?_;rintro e w1⟨rfl,h1⟩;obtain⟨x1,x2,x3⟩:=KR.out w1 h1;have H1:=Hd h1;clear h1;by_cases h0:er=0
 .subst h0
  go_wp2;go_returns;refine⟨rfl,w1,H1.out,?_⟩
  first|rfl|exact⟨fun q=>(q rfl).elim,fun _=>rfl⟩
 .have hne:(((er:Nat):Int)==0)=false:=by simp<;>exact h0
  go_wp2;go_returns;exact⟨rfl,w1,H1.out,fun _=>rfl,fun q=>(h0 q).elim⟩
end
end
section
open Go.Proofs.Tryz Go.RowKit
structure PT(τ:Type) where
 f:Nat->FrS
 pl:Nat->Option Int
 E:Nat->Bool
 I:Nat->Bool
 sc:Nat
 D:RS
 A:τ
structure PJ{τ:Type}(RR:World->τ->(Nat->Prop)->Prop)(w:World)(p:PP)(T:PT τ)(m:Nat)(FD FR:Nat->Prop):Prop where
 mp:MP w p T.f T.pl T.E T.I T.sc m
 cd:CD p.db T.D m w FD
 rr:RR w T.A FR
 s1:∀i,p.own i->¬FD i∧¬FR i
 s2:∀i,FD i->¬FR i
 t1:¬FD 0∧¬FR 0
def PI{τ:Type}(RR:World->τ->(Nat->Prop)->Prop)(p:PP)(T:PT τ)(m:Nat)(w:World)(F:Nat->Prop):Prop:=∃FD FR,PJ RR w p T m FD FR∧∀i,F i↔p.own i∨FD i∨FR i
theorem Led.refl{R:World->(Nat->Prop)->Prop}{F:Nat->Prop}{w:World}(h:R w F):Led R F w w:=⟨F,h,Fr.refl _ _,fun i q=>.inl q⟩
theorem Led.trans{R':World->(Nat->Prop)->Prop}{F F1:Nat->Prop}{w w1 w2:World}(f:Fr F w w1)(hF:∀i,F1 i->F i∨w.heap.size<=i)(h:Led R' F1 w1 w2):Led R' F w w2:=by
 obtain⟨F2,h2,g,q⟩:=h;refine⟨F2,h2,f.trans g hF,fun i k=>?_⟩;rcases q i k with q|q
 .exact hF i q
 .have:=f.size;exact .inr (by omega)
theorem Led.mono{R R':World->(Nat->Prop)->Prop}{F:Nat->Prop}{w w':World}(h:Led R F w w')(k:∀F',R w' F'->R' w' F'):Led R' F w w':=by
 obtain⟨F',h,f,q⟩:=h;exact⟨F',k F' h,f,q⟩
section
variable{τ:Type}{P:Adv τ}{RR:World->τ->(Nat->Prop)->Prop}{ok:Nat->τ->(Nat->Nat)->(Nat->Bool)->Prop}{p:PP}(S:RepSys P RR p.pb p.rv p.n ok){w w':World}{T:PT τ}{m:Nat}{F:Nat->Prop}
theorem PI.me(H:PI RR p T m w F):MP w p T.f T.pl T.E T.I T.sc m:=by obtain⟨FD,FR,h,_⟩:=H;exact h.mp
theorem PI.own(H:PI RR p T m w F):∀i,p.own i->F i:=by obtain⟨FD,FR,h,hF⟩:=H;exact fun i q=>(hF i).2 (.inl q)
theorem PI.set(H:PI RR p T m w F){f:Nat->FrS}{pl:Nat->Option Int}{E I:Nat->Bool}{sc k:Nat}(h:MP w' p f pl E I sc k)(g:Fr p.own w w')(hk:m<=k)(S:RepSys P RR p.pb p.rv p.n ok):Led (PI RR p {T with f:=f,pl:=pl,E:=E,I:=I,sc:=sc} k) F w w':=by
 obtain⟨FD,FR,H,hF⟩:=H;exact⟨F,⟨FD,FR,⟨h,(H.cd.fr g (fun i q k=>(H.s1 i k).1 q)).more hk,S.fr H.rr g (fun i q k=>(H.s1 i k).2 q),H.s1,H.s2,H.t1⟩,hF⟩,g.mono (fun i q=>(hF i).2 (.inl q)),fun i q=>.inl q⟩
theorem PI.more(H:PI RR p T m w F){k:Nat}(hk:m<=k):PI RR p T k w F:=by
 obtain⟨FD,FR,H,hF⟩:=H;exact⟨FD,FR,⟨H.mp.more hk,H.cd.more hk,H.rr,H.s1,H.s2,H.t1⟩,hF⟩
include S
theorem PI.fro(H:PI RR p T m w F){G:Nat->Prop}(g:Fr G w w')(hG:∀i,F i->¬G i)(ht:¬G 0):PI RR p T m w' F:=by
 obtain⟨FD,FR,H,hF⟩:=H;exact⟨FD,FR,⟨H.mp.fro g (fun i q=>hG i ((hF i).2 (.inl q))) ht,H.cd.fr g (fun i q=>hG i ((hF i).2 (.inr (.inl q)))),S.fr H.rr g (fun i q=>hG i ((hF i).2 (.inr (.inr q)))),H.s1,H.s2,H.t1⟩,hF⟩
theorem PI.fr0(H:PI RR p T m w F)(g:Fr NoF w w'):PI RR p T m w' F:=H.fro S g (fun _ _ q=>q) id
theorem PI.lt(H:PI RR p T m w F):∀i,F i->i<w.heap.size:=by
 obtain⟨FD,FR,H,hF⟩:=H;intro i q;rcases(hF i).1 q with q|q|q
 .exact H.mp.lt i q
 .exact H.cd.lt i q
 .exact S.lt H.rr i q
theorem PI.disk(H:PI RR p T m w F){g:FuncId}{args:Array Value}{Q:Ending->World->Prop}{D':RS}{k:Nat}(hk:m<=k)(hc:∀FD,CD p.db T.D m w FD->Calls prog g args w fun e w'=>Q e w'∧Led (CD p.db D' k) FD w w'):
  Calls prog g args w fun e w'=>Q e w'∧Led (PI RR p {T with D:=D'} k) F w w':=by
 obtain⟨FD,FR,H,hF⟩:=H;refine(hc FD H.cd).mono ?_;rintro e w'⟨he,FD',hd,f,hq⟩;refine⟨he,fun i=>p.own i∨FD' i∨FR i,⟨FD',FR,⟨(H.mp.fro f (fun i q=>(H.s1 i q).1) H.t1.1).more hk,hd,S.fr H.rr f (fun i q k=>H.s2 i k q),fun i q=>⟨fun k=>?_,(H.s1 i q).2⟩,fun i q k=>?_,fun q=>?_,H.t1.2⟩,fun i=>Iff.rfl⟩,f.mono (fun i q=>(hF i).2 (.inr (.inl q))),?_⟩
 .rcases hq i k with k|k
  .exact(H.s1 i q).1 k
  .have:=H.mp.lt i q;omega
 .rcases hq i q with q|q
  .exact H.s2 i q k
  .have:=S.lt H.rr i k;omega
 .rcases hq _ q with q|q
  .exact H.t1.1 q
  .have:=H.mp.tab.lt;omega
 .rintro i(q|q|q)
  .exact .inl ((hF i).2 (.inl q))
  .exact(hq i q).imp (fun q=>(hF i).2 (.inr (.inl q))) id
  .exact .inl ((hF i).2 (.inr (.inr q)))
theorem PI.told(H:PI RR p T m w F){g:FuncId}{args:Array Value}{Q:Ending->World->Prop}{s':τ}(hc:∀FR,RR w T.A FR->(∀i,FR i->F i)->¬FR p.pb->Calls prog g args w fun e w'=>Q e w'∧Tld RR s' FR w w'):
  Calls prog g args w fun e w'=>Q e w'∧Led (PI RR p {T with A:=s'} m) F w w':=by
 obtain⟨FD,FR,H,hF⟩:=H;refine(hc FR H.rr (fun i q=>(hF i).2 (.inr (.inr q))) (H.s1 _ (.inl rfl)).2).mono ?_;rintro e w'⟨he,FR',hd,f,hq⟩;refine⟨he,fun i=>p.own i∨FD i∨FR' i,⟨FD,FR',⟨H.mp.fro f (fun i q=>(H.s1 i q).2) H.t1.2,H.cd.fr f (fun i q=>H.s2 i q),hd,fun i q=>⟨(H.s1 i q).1,fun k=>?_⟩,fun i q k=>?_,H.t1.1,fun q=>?_⟩,fun i=>Iff.rfl⟩,f.mono (fun i q=>(hF i).2 (.inr (.inr q))),?_⟩
 .rcases hq i k with k|k
  .exact(H.s1 i q).2 k
  .have:=H.mp.lt i q;omega
 .rcases hq i k with k|k
  .exact H.s2 i q k
  .have:=H.cd.lt i q;omega
 .rcases hq _ q with q|q
  .exact H.t1.2 q
  .have:=H.mp.tab.lt;omega
 .rintro i(q|q|q)
  .exact .inl ((hF i).2 (.inl q))
  .exact .inl ((hF i).2 (.inr (.inl q)))
  .exact(hq i q).imp (fun q=>(hF i).2 (.inr (.inr q))) id
theorem PI.tell1(H:PI RR p T m w F){g:FuncId}{c1:Value}{s':τ}(ho:Own g)(hc:∀FR,RR w T.A FR->(∀i,FR i->F i)->Calls prog g #[p.rv,c1] w fun e w'=>e=.returned (.tuple #[])∧Tld RR s' FR w w'):
  Calls prog 69 #[p.ptr,.func (.func g) #[] #[c1]] w fun e w'=>e=.returned (.tuple #[])∧Led (PI RR p {T with A:=s'} m) F w w':=
 H.told S (fun FR hr hF _=>tell_one ho (H.me.ce 1 (by omega)) H.me.hd.lt (hc FR hr hF))
theorem PI.tell2(H:PI RR p T m w F){g:FuncId}{c1 c2:Value}{s':τ}(ho:Own g)(hc:∀FR,RR w T.A FR->(∀i,FR i->F i)->Calls prog g #[p.rv,c1,c2] w fun e w'=>e=.returned (.tuple #[])∧Tld RR s' FR w w'):
  Calls prog 69 #[p.ptr,.func (.func g) #[] #[c1,c2]] w fun e w'=>e=.returned (.tuple #[])∧Led (PI RR p {T with A:=s'} m) F w w':=
 H.told S (fun FR hr hF _=>tell_two ho (H.me.ce 1 (by omega)) H.me.hd.lt (hc FR hr hF))
end
theorem own_of{f:FuncId}{fn:Func}{c:Code}(hf:prog.funcs[f]?=some fn)(hname:(fn.name== "runtime.NumGoroutine")=false)(hb:fn.body=some c):Own f:=fun args w=>by
 have h1:fn.name≠ "runtime.NumGoroutine" :=by simpa using hname
 simp[callFunc,hf,h1,hb]
theorem own_p1:Own 81:=own_of func81 (by kernel_rfl) rfl
theorem own_p2:Own 84:=own_of func84 (by kernel_rfl) rfl
theorem own_p3:Own 85:=own_of func85 (by kernel_rfl) rfl
theorem own_v1:Own 108:=own_of func108 (by kernel_rfl) rfl
theorem own_e1:Own 89:=own_of func89 (by kernel_rfl) rfl
end
section
open Go.Maps Go.Proofs.Tryz Go.RowKit
theorem blk1(w:World)(u:Value)(t:TypeId):Blk (w.alloc (.cells #[u] t)) w.heap.size 1 (fun _=>u):=Blk.new w #[u] t 1 (fun _=>u) _ rfl rfl (fun i hi=>by
 match i,hi with
 |0,_=>rfl)
theorem alloc_size(w:World)(o:Obj):(w.alloc o).heap.size=w.heap.size+1:=Array.size_push (xs:=w.heap) o
theorem box2(w:World)(u1 u2:Value)(t1 t2:TypeId):((w.alloc (.cells #[u1] t1)).alloc (.cells #[u2] t2)).cell? ⟨w.heap.size,0,none⟩=some u1∧((w.alloc (.cells #[u1] t1)).alloc (.cells #[u2] t2)).cell? ⟨w.heap.size+1,0,none⟩=some u2∧((w.alloc (.cells #[u1] t1)).alloc (.cells #[u2] t2)).heap.size=w.heap.size+2∧Fr NoF w ((w.alloc (.cells #[u1] t1)).alloc (.cells #[u2] t2)):=by
 have h1:=(blk1 w u1 t1).alloc (.cells #[u2] t2);have h2:=blk1 (w.alloc (.cells #[u1] t1)) u2 t2;have hs:=alloc_size w (.cells #[u1] t1);rw[hs]at h2;exact⟨h1.cell (by omega),h2.cell (by omega),by rw[alloc_size,alloc_size],((Fr.refl NoF w).alloc _).alloc _⟩
theorem box1(w:World)(u1:Value)(t1:TypeId):(w.alloc (.cells #[u1] t1)).cell? ⟨w.heap.size,0,none⟩=some u1∧(w.alloc (.cells #[u1] t1)).heap.size=w.heap.size+1∧Fr NoF w (w.alloc (.cells #[u1] t1)):=
 ⟨(blk1 w u1 t1).cell (by omega),alloc_size _ _,(Fr.refl NoF w).alloc _⟩
section
variable{τ:Type}{P:Adv τ}{RR:World->τ->(Nat->Prop)->Prop}{ok:Nat->τ->(Nat->Nat)->(Nat->Bool)->Prop}{p:PP}(S:RepSys P RR p.pb p.rv p.n ok){w w':World}{T:PT τ}{m:Nat}{F:Nat->Prop}
include S
theorem enter_calls(H:PI RR p T m w F)(hm:m<80000){k id:Nat}(hk:k<p.n)(h1:1<=id)(hu:id<4294967296){pg:Nat->Nat}{ev:Nat->Bool}(ho:ok m T.A pg ev)(h0:pg k=0)(hno:∀i,i<p.n->¬pg i=id)(hm1:1<=m):Calls prog 64 #[p.ptr,.int .i64 k,.int .u32 id] w fun e w'=>e=.returned (.tuple #[])∧
  Led (PI RR p {T with f:=upd T.f k ⟨id,0,1,false⟩,pl:=updO T.pl id (some k),E:=updB T.E k false,A:=P.access T.A k id} (m+1)) F w w':=by
 obtain⟨b1,b2,b3,b4⟩:=box2 w (.int .i64 k) (.int .u32 id) 3 34;have H1:=H.fr0 S b4;have lb:=H1.me.hd.lt;have lf:=H1.me.fr.lt;have hlt:=H.lt S;have c2:((w.alloc (.cells #[.int .i64 k] 3)).alloc (.cells #[.int .u32 id] 34)).cell? ⟨p.pb,2,none⟩=some (.slice (some ⟨p.fb,0,none⟩) p.n p.n):=H1.me.ce 2 (by omega);have hn:=H.me.hn;obtain⟨e0,e1,e2,e3⟩:=H1.me.cf hk;have z0:=H1.me.fr.frozen (k*4);have z1:=H1.me.fr.frozen (k*4+1);have z2:=H1.me.fr.frozen (k*4+2);have z3:=H1.me.fr.frozen (k*4+3);have hnF1:¬F w.heap.size:=fun q=>by have:=hlt _ q;omega
 have hnF2:¬F (w.heap.size+1):=fun q=>by have:=hlt _ q;omega
 have HF:=Hd H1;have HU:=Hd hu;generalize(T.f k).id=xi at*;generalize(T.f k).val=xv at*;generalize(T.f k).pins=xp at*;generalize(T.f k).dirty=xd at*;have B4:=Hd b4
 have KA:Hid (∀wA,wA=(((((((w.alloc (.cells #[.int .i64 k] 3)).alloc (.cells #[.int .u32 id] 34)).setCell ⟨p.fb,k*4,none⟩ (.int .u32 id)).setCell ⟨p.fb,k*4+1,none⟩ (.int .u64 0)).setCell ⟨p.fb,k*4+2,none⟩ (.int .i64 1)).setCell ⟨p.fb,k*4+3,none⟩ (.bool false)).drew)->
   MP wA p (upd T.f k ⟨id,0,1,false⟩) T.pl T.E T.I T.sc m∧Fr p.own ((w.alloc (.cells #[.int .i64 k] 3)).alloc (.cells #[.int .u32 id] 34)) wA):=fun wA hA=>by
  obtain⟨q1,q2⟩:=H1.me.put4 hk ⟨id,0,1,false⟩ ⟨hu,by show 0<_;omega,hm1⟩ rfl;subst hA;exact⟨q1.fr0 ((Fr.refl NoF _).drew),(q2.drew).mono (fun i q=>.inr (.inl q))⟩
 have KT:Hid (∀w3 F3,PI RR p {T with f:=upd T.f k ⟨id,0,1,false⟩,pl:=updO T.pl id (some k),E:=updB T.E k false} (m+1) w3 F3->w3.cell? ⟨w.heap.size,0,none⟩=some (.int .i64 k)->w3.cell? ⟨w.heap.size+1,0,none⟩=some (.int .u32 id)->w.heap.size+1<w3.heap.size->¬F3 w.heap.size->¬F3 (w.heap.size+1)->
  Calls prog 69 #[p.ptr,.func (.func 89) #[] #[.pointer (some ⟨w.heap.size,0,none⟩),.pointer (some ⟨w.heap.size+1,0,none⟩)]] w3 fun e w'=>e=.returned (.tuple #[])∧Led (PI RR p {T with f:=upd T.f k ⟨id,0,1,false⟩,pl:=updO T.pl id (some k),E:=updB T.E k false,A:=P.access T.A k id} (m+1)) F3 w3 w'):=
  fun w3 F3 h3 q1 q2 q3 q4 q5=>h3.tell2 S own_e1 (fun FR hr hF=>S.acc hr (S.more ho (Nat.le_succ m)) (by omega) h1 hu hk (.inr ⟨h0,hno⟩) q1 q2 (by omega) q3 (fun q=>q4 (hF _ q)) (fun q=>q5 (hF _ q)) (.inr (.inl rfl)))
 have KS:Hid (∀w3,MP w3 p (upd T.f k ⟨id,0,1,false⟩) (updO T.pl id (some k)) (updB T.E k false) T.I T.sc (m+1)->Fr p.own ((w.alloc (.cells #[.int .i64 k] 3)).alloc (.cells #[.int .u32 id] 34)) w3->Led (PI RR p {T with f:=upd T.f k ⟨id,0,1,false⟩,pl:=updO T.pl id (some k),E:=updB T.E k false} (m+1)) F ((w.alloc (.cells #[.int .i64 k] 3)).alloc (.cells #[.int .u32 id] 34)) w3):=
  fun w3 h g=>H1.set h g (by omega) S
 have hno1:¬p.own w.heap.size:=fun q=>hnF1 (H.own _ q)
 have hno2:¬p.own (w.heap.size+1):=fun q=>hnF2 (H.own _ q)
 generalize hw2:((w.alloc (.cells #[.int .i64 k] 3)).alloc (.cells #[.int .u32 id] 34))=w2 at*;have hbn:w.heap.size+1<w2.heap.size:=by omega
 unfold PP.ptr at*;clear H H1 ho hlt b4 hu S HF hno h0 b3;go_enter func64,ntmps64
 go_wp2_with fail
 try rw[hw2]
 clear hw2
 go_region
 all_goals
  go_wp2_with fail
  obtain⟨mA,gA⟩:=KA.out _ rfl;generalize((((w2.setCell ⟨p.fb,k*4,none⟩ (.int .u32 id)).setCell ⟨p.fb,k*4+1,none⟩ (.int .u64 0)).setCell ⟨p.fb,k*4+2,none⟩ (.int .i64 1)).setCell ⟨p.fb,k*4+3,none⟩ (.bool false)).drew=wA at mA gA⊢;clear KA;obtain⟨wB,rB,hB,gB⟩:=(mA.fr0 ((Fr.refl NoF wA).drew)).put (by omega) HU.out (k:Int);have x3:wA.cell? ⟨p.pb,3,none⟩=some (.map (some p.mb)):=mA.ce 3 (by omega);have xl:=mA.hd.lt;have y1:wA.cell? ⟨w.heap.size,0,none⟩=some (.int .i64 k):=by rw[gA.cell (p:=⟨w.heap.size,0,none⟩) (by show w.heap.size<_;omega) hno1];exact b1
  have y2:wA.cell? ⟨w.heap.size+1,0,none⟩=some (.int .u32 id):=by rw[gA.cell (p:=⟨w.heap.size+1,0,none⟩) (by show w.heap.size+1<_;omega) hno2];exact b2
  have gAB:Fr p.own w2 wB:=gA.trans (((Fr.refl NoF wA).drew.mono (fun _ q=>q.elim)).trans (gB.mono (fun i q=>.inr (.inr (.inl q)))) (fun i q=>.inl q)) (fun i q=>.inl q);clear mA gA gB c2 e0 e1 e2 e3 z0 z1 z2 z3 lb lf
  go_region
  all_goals
   clear rB x3 xl y1 y2
   go_wp2_with fail
   have lb:=hB.hd.lt;have y1:wB.cell? ⟨w.heap.size,0,none⟩=some (.int .i64 k):=by rw[gAB.cell (p:=⟨w.heap.size,0,none⟩) (by show w.heap.size<_;omega) hno1];exact b1
   have HB:=Hd hB;have GB:=Hd gAB;clear hB gAB
   go_still_tail 4,(by kernel_rfl)
   go_wp2_with fail
   refine(mp_dropE (HB.out.fr0 ((Fr.refl NoF wB).drew)) hk).mono ?_;rintro e wC⟨rfl,hC,gC⟩;have gAC:Fr p.own w2 wC:=GB.out.trans (((Fr.refl NoF wB).drew.mono (fun _ q=>q.elim)).trans gC (fun i q=>.inl q)) (fun i q=>.inl q);obtain⟨F3,h3,g3,q3⟩:=KS.out wC hC gAC;have z1:wC.cell? ⟨w.heap.size,0,none⟩=some (.int .i64 k):=by rw[gAC.cell (p:=⟨w.heap.size,0,none⟩) (by show w.heap.size<_;omega) hno1];exact b1
   have z2:wC.cell? ⟨w.heap.size+1,0,none⟩=some (.int .u32 id):=by rw[gAC.cell (p:=⟨w.heap.size+1,0,none⟩) (by show w.heap.size+1<_;omega) hno2];exact b2
   have hs2:=gAC.size;have KC:=Hd (KT.out wC F3 h3 z1 z2 (by omega) (fun q=>(q3 _ q).elim hnF1 (fun q=>by omega)) (fun q=>(q3 _ q).elim hnF2 (fun q=>by omega)));have G3:=Hd g3;have Q3:=Hd q3;clear hC gC gAC h3 g3 q3 z1 z2 KT KS HB GB y1
   go_wp2_with fail
   refine KC.out.mono ?_;rintro e w3⟨rfl,h4⟩;have H4:=Hd h4;clear h4;go_wp2;go_returns;exact⟨rfl,Led.trans (B4.out.mono (fun _ q=>q.elim)) (fun i q=>.inl q) (Led.trans G3.out Q3.out H4.out)⟩
end
section
variable{τ:Type}{P:Adv τ}{RR:World->τ->(Nat->Prop)->Prop}{ok:Nat->τ->(Nat->Nat)->(Nat->Bool)->Prop}{p:PP}(S:RepSys P RR p.pb p.rv p.n ok){w w':World}{T:PT τ}{m:Nat}{F:Nat->Prop}
include S
theorem ask_none(H:PI RR p T m w F)(hm:m<80000){id:Nat}(h1:1<=id)(hu:id<4294967296){pg:Nat->Nat}{ev:Nat->Bool}(ho:ok m T.A pg ev)(hno:∀i,i<p.n->¬pg i=id)(hex:∃x,Goer p.n pg ev x)(hv:P.victim T.A id=none):Calls prog 107 #[p.ptr,.int .u32 id] w fun e w'=>(∃x:Int,e=.returned (.tuple #[.int .i64 x,.bool false]))∧
  Led (PI RR p {T with A:=P.aft T.A id} m) F w w':=H.told S (Q:=fun e _=>∃x:Int,e=.returned (.tuple #[.int .i64 x,.bool false])) (fun FR hr hF hp=>by
   have:=S.ask (pb:=p.pb) hr ho (by omega) h1 hu hno hex (H.me.ce 1 (by omega)) H.me.hd.lt hp;rw[hv]at this;exact this)
theorem ask_some(H:PI RR p T m w F)(hm:m<80000){id a:Nat}(h1:1<=id)(hu:id<4294967296){pg:Nat->Nat}{ev:Nat->Bool}(ho:ok m T.A pg ev)(hno:∀i,i<p.n->¬pg i=id)(hex:∃x,Goer p.n pg ev x)(hv:P.victim T.A id=some a):Calls prog 107 #[p.ptr,.int .u32 id] w fun e w'=>e=.returned (.tuple #[.int .i64 a,.bool true])∧
  Led (PI RR p {T with A:=P.aft T.A id} m) F w w':=H.told S (Q:=fun e _=>e=.returned (.tuple #[.int .i64 a,.bool true])) (fun FR hr hF hp=>by
   have:=S.ask (pb:=p.pb) hr ho (by omega) h1 hu hno hex (H.me.ce 1 (by omega)) H.me.hd.lt hp;rw[hv]at this;exact this)
theorem victim_yes(H:PI RR p T m w F)(hm:m<80000){id a:Nat}(h1:1<=id)(hu:id<4294967296){pg:Nat->Nat}{ev:Nat->Bool}(ho:ok m T.A pg ev)(hno:∀i,i<p.n->¬pg i=id)(hex:∃x,Goer p.n pg ev x)(hv:P.victim T.A id=some a)(hI:T.I a=true):Calls prog 83 #[p.ptr,.int .u32 id] w fun e w'=>e=.returned (.int .i64 a)∧
  Led (PI RR p {T with A:=P.aft T.A id} m) F w w':=by
 have HA:=Hd (ask_some S H hm h1 hu ho hno hex hv)
 have KH:Hid (∀w1 F1,PI RR p {T with A:=P.aft T.A id} m w1 F1->∀(t:TypeId) d,Calls prog 78 #[.pointer (some ⟨p.pb,7,none⟩),.int .i64 a] ((w1.alloc (.cells #[.int .i64 a] t)).drewN d) fun e w'=>e=.returned (.bool true)∧((w1.alloc (.cells #[.int .i64 a] t)).drewN d)=w'):=fun w1 F1 h t d=>by
  have:=mp_hasI (h.fr0 S (((Fr.refl NoF w1).alloc (.cells #[.int .i64 a] t)).drewN d)).me (a:Int)
  dsimp only at this
  rw[show hasZ T.I (a:Int)=true from by unfold hasZ;rw[if_neg (by omega)];exact hI]at this;exact this
 have KL:Hid (∀w1 F1,PI RR p {T with A:=P.aft T.A id} m w1 F1->p.pb<w1.heap.size):=fun w1 F1 h=>h.me.hd.lt
 have KF:Hid (∀w1 F1,PI RR p {T with A:=P.aft T.A id} m w1 F1->∀(t:TypeId) d,PI RR p {T with A:=P.aft T.A id} m ((w1.alloc (.cells #[.int .i64 a] t)).drewN d) F1):=fun w1 F1 h t d=>h.fr0 S (((Fr.refl NoF w1).alloc _).drewN d)
 unfold PP.ptr at*;clear H S ho hno hex hv hI hu;go_enter func83,ntmps83
 go_wp2_with fail
 refine HA.out.mono ?_;rintro e w1⟨rfl,F1,hp1,g1,q1⟩;have lb:=KL.out w1 F1 hp1;have HH:=Hd (KH.out w1 F1 hp1);have HP1:=Hd hp1;have G1:=Hd g1;have Q1:=Hd q1;clear hp1 g1 q1
 go_wp2_with fail
 obtain⟨x1,x2,x3⟩:=box1 w1 (.int .i64 a) 3;have xl:p.pb<(w1.alloc (.cells #[.int .i64 a] 3)).heap.size:=by omega
 go_quiet ((go_at_call 78;exact qs (HH.out _ _)))
 go_wp2;go_returns;exact⟨rfl,F1,KF.out w1 F1 HP1.out _ _,G1.out.trans (((Fr.refl _ w1).alloc _).drewN _) (fun i q=>.inl q),Q1.out⟩
theorem victim_no(H:PI RR p T m w F)(hm:m<80000){id x0:Nat}(h1:1<=id)(hu:id<4294967296){pg:Nat->Nat}{ev:Nat->Bool}(ho:ok m T.A pg ev)(hno:∀i,i<p.n->¬pg i=id)(hg:Goer p.n pg ev x0)(hgI:∀x,T.I x=true->Goer p.n pg ev x)(hgJ:∀x,Goer p.n pg ev x->T.I x=true)(hv:∀a,P.victim T.A id=some a->T.I a=false)(hx0:IsLeast T.I x0):Calls prog 83 #[p.ptr,.int .u32 id] w fun e w'=>e=.returned (.int .i64 x0)∧
  Led (PI RR p {T with A:=P.remove (P.aft T.A id) x0,sc:=T.sc+1} (m+1)) F w w':=by
 have okN:=S.okNo ho (by omega) h1 hno (fun a ha q=>by have:=hv a ha;rw[hgJ a q]at this;cases this)
 have HA:Hid (∃b:Bool,Calls prog 107 #[p.ptr,.int .u32 id] w fun e w'=>(∃x:Int,e=.returned (.tuple #[.int .i64 x,.bool b])∧(b=true->hasZ T.I x=false))∧Led (PI RR p {T with A:=P.aft T.A id} m) F w w'):=by
  cases hva:P.victim T.A id with
  |none=>
   refine⟨false,(ask_none S H hm h1 hu ho hno ⟨x0,hg⟩ hva).mono ?_⟩;rintro e w'⟨⟨x,he⟩,h⟩;exact⟨⟨x,he,fun q=>by cases q⟩,h⟩
  |some a=>
   refine⟨true,(ask_some S H hm h1 hu ho hno ⟨x0,hg⟩ hva).mono ?_⟩;rintro e w'⟨he,h⟩;exact⟨⟨a,he,fun q=>by unfold hasZ;rw[if_neg (by omega)];exact hv a hva⟩,h⟩
 have KH:Hid (∀w1 F1 (x:Int),PI RR p {T with A:=P.aft T.A id} m w1 F1->hasZ T.I x=false->∀(t:TypeId) d,Calls prog 78 #[.pointer (some ⟨p.pb,7,none⟩),.int .i64 x] ((w1.alloc (.cells #[.int .i64 x] t)).drewN d) fun e w'=>e=.returned (.bool false)∧((w1.alloc (.cells #[.int .i64 x] t)).drewN d)=w'):=fun w1 F1 x h hx t d=>by
  have:=mp_hasI (h.fr0 S (((Fr.refl NoF w1).alloc (.cells #[.int .i64 x] t)).drewN d)).me x
  dsimp only at this
  rw[hx]at this;exact this
 have KS:Hid (∀w1 wq F1,PI RR p {T with A:=P.aft T.A id} m w1 F1->Fr NoF w1 wq->PI RR p {T with A:=P.aft T.A id,sc:=T.sc+1} (m+1) (wq.setCell ⟨p.pb,10,none⟩ (.int .i64 ((T.sc:Int)+1))) F1∧Fr F1 w1 (wq.setCell ⟨p.pb,10,none⟩ (.int .i64 ((T.sc:Int)+1)))∧Fr p.own wq (wq.setCell ⟨p.pb,10,none⟩ (.int .i64 ((T.sc:Int)+1)))):=fun w1 wq F1 h0 f0=>by
  have h:=h0.fr0 S f0;obtain⟨q1,q2⟩:=h.me.scan (x:=T.sc+1) (m':=m+1) (by have q0:T.sc<=m:=h.me.bd.1;omega) (by omega);obtain⟨FD,FR,H,hF⟩:=h;have g:Fr p.own wq (wq.setCell ⟨p.pb,10,none⟩ (.int .i64 ((T.sc:Int)+1))):=q2.mono (fun i q=>.inl q);exact⟨⟨FD,FR,⟨q1,(H.cd.fr g (fun i q k=>(H.s1 i k).1 q)).more (by omega),S.fr H.rr g (fun i q k=>(H.s1 i k).2 q),H.s1,H.s2,H.t1⟩,hF⟩,(f0.mono (fun _ q=>q.elim)).trans g (fun i q=>.inl ((hF i).2 (.inl q))),g⟩
 have KL:Hid (∀w1 F1 (A:τ) (sc k:Nat),PI RR p {T with A:=A,sc:=sc} k w1 F1->p.pb<w1.heap.size∧w1.cell? ⟨p.pb,10,none⟩=some (.int .i64 sc)∧w1.frozen? ⟨p.pb,10,none⟩=false∧∀i,F1 i->i<w1.heap.size):=fun w1 F1 A sc k h=>⟨h.me.hd.lt,h.me.ce 10 (by omega),h.me.hd.frozen 10,h.lt S⟩
 have KN:Hid (∀w1 w2 F1 (A:τ) (sc k:Nat),PI RR p {T with A:=A,sc:=sc} k w1 F1->Fr NoF w1 w2->PI RR p {T with A:=A,sc:=sc} k w2 F1):=fun w1 w2 F1 A sc k h g=>h.fr0 S g
 have KW:Hid (∀w1 w2 F1 b (A:τ) (sc k:Nat),PI RR p {T with A:=A,sc:=sc} k w1 F1->Fr (fun i=>i=b) w1 w2->¬F1 b->¬b=0->PI RR p {T with A:=A,sc:=sc} k w2 F1):=fun w1 w2 F1 b A sc k h g q q2=>h.fro S g (fun i q3 q4=>q (q4▸q3)) (fun q3=>q2 q3.symm)
 have KT:Hid (∀w1 F1,PI RR p {T with A:=P.aft T.A id,sc:=T.sc+1} (m+1) w1 F1->0<w1.heap.size):=fun w1 F1 h=>h.me.tab.lt
 have KI:Hid (∀w1 F1,PI RR p {T with A:=P.aft T.A id,sc:=T.sc+1} (m+1) w1 F1->Calls prog 82 #[.pointer (some ⟨p.pb,7,none⟩)] w1 fun e w'=>e=.returned (.int .i64 x0)∧w1=w'):=fun w1 F1 h=>by
  refine(mp_firstI h.me).mono ?_;rintro e w'⟨rfl,⟨_,q,_⟩|⟨x,hx,hl,he⟩⟩
  .have hq:T.I x0=false:=q x0
   rw[hx0.1]at hq;cases hq
  .have l1:T.I x=true:=hl.1
   have l2:∀y,y<x->T.I y=false:=hl.2
   have e:x=x0:=by
    rcases Nat.lt_trichotomy x x0 with q|q|q
    .have:=hx0.2 x q;rw[l1]at this;cases this
    .exact q
    .have:=l2 x0 q;rw[hx0.1]at this;cases this
   rw[e]at he;exact⟨he,rfl⟩
 have KX:Hid (∀w3 F3 b,PI RR p {T with A:=P.aft T.A id,sc:=T.sc+1} (m+1) w3 F3->w3.cell? ⟨b,0,none⟩=some (.int .i64 x0)->b<w3.heap.size->¬F3 b->
  Calls prog 69 #[p.ptr,.func (.func 108) #[] #[.pointer (some ⟨b,0,none⟩)]] w3 fun e w'=>e=.returned (.tuple #[])∧Led (PI RR p {T with A:=P.remove (P.aft T.A id) x0,sc:=T.sc+1} (m+1)) F3 w3 w'):=
  fun w3 F3 b h3 q1 q2 q3=>h3.tell1 S own_v1 (fun FR hr hF=>S.rem hr okN (by omega) hg.1 hg.2.1 q1 q2 (fun q=>q3 (hF _ q)) (.inl rfl))
 have hsc:T.sc<900000:=by have:=H.me.bd.1;omega
 unfold PP.ptr at*;clear H S ho hno hv hgI hgJ hg hx0 hu okN;go_enter func83,ntmps83
 go_wp2_with fail
 obtain⟨b,HC⟩:=HA.out;refine HC.mono ?_;clear HC HA;rintro e w1⟨⟨z,rfl,hz⟩,F1,hp1,g1,q1⟩;obtain⟨lb,y1,y2,y3⟩:=KL.out w1 F1 _ _ _ hp1;have nF1:¬F1 w1.heap.size:=fun q=>by have:=y3 _ q;omega
 clear y3;have HP1:=Hd hp1;have G1:=Hd g1;have Q1:=Hd q1;clear hp1 g1 q1;obtain⟨x1,x2,x3⟩:=box1 w1 (.int .i64 z) 3;have X3:=Hd x3;have x4:(w1.alloc (.cells #[.int .i64 z] 3)).cell? ⟨p.pb,10,none⟩=some (.int .i64 T.sc):=by rw[x3.cell (p:=⟨p.pb,10,none⟩) lb (fun q=>q)];exact y1
 have xl:p.pb<(w1.alloc (.cells #[.int .i64 z] 3)).heap.size:=by omega
 have x5:(w1.alloc (.cells #[.int .i64 z] 3)).frozen? ⟨p.pb,10,none⟩=false:=by rw[x3.frozen (p:=⟨p.pb,10,none⟩) lb (fun q=>q)];exact y2
 clear x3 y1 y2;have hcw:IntKind.i64.wrap ((T.sc:Int)+1)=(T.sc:Int)+1:=IntWalk.i64_in _ (by omega)
 have KY:Hid (∀wq,Fr NoF (w1.alloc (.cells #[.int .i64 z] 3)) wq->∀ws,ws=wq.setCell ⟨p.pb,10,none⟩ (.int .i64 ((T.sc:Int)+1))->ws.cell? ⟨w1.heap.size,0,none⟩=some (.int .i64 z)∧ws.frozen? ⟨w1.heap.size,0,none⟩=false∧w1.heap.size<ws.heap.size∧p.pb<ws.heap.size∧
   Calls prog 69 #[.pointer (some ⟨p.pb,0,none⟩),.func (.func 108) #[] #[.pointer (some ⟨w1.heap.size,0,none⟩)]] (ws.setCell ⟨w1.heap.size,0,none⟩ (.int .i64 x0)) fun e w'=>e=.returned (.tuple #[])∧w'.cell? ⟨w1.heap.size,0,none⟩=some (.int .i64 x0)∧Led (PI RR p {T with A:=P.remove (P.aft T.A id) x0,sc:=T.sc+1} (m+1)) F w w'):=fun wq hq ws hs=>by
  obtain⟨s1,s2,s3⟩:=KS.out w1 wq F1 HP1.out (((Fr.refl NoF w1).alloc _).trans hq (fun _ q=>q.elim));rw[<-hs]at s1 s2 s3;have hpb:¬p.own w1.heap.size:=fun q=>nF1 (HP1.out.own _ q)
  have gB:Blk ws w1.heap.size 1 (fun _=>.int .i64 z):=((blk1 w1 (.int .i64 z) 3).fr hq (fun q=>q)).fr s3 hpb;have gs:Fr (fun i=>i=w1.heap.size) ws (ws.setCell ⟨w1.heap.size,0,none⟩ (.int .i64 x0)):=(Fr.refl (fun i=>i=w1.heap.size) ws).setCell (p:=⟨w1.heap.size,0,none⟩) (.inl rfl) _
  have gB2:Blk (ws.setCell ⟨w1.heap.size,0,none⟩ (.int .i64 x0)) w1.heap.size 1 (fun _=>.int .i64 x0):=(gB.set 0 _).congr (fun i hi=>by
   obtain rfl:i=0:=by omega
   rw[upd_same])
  have hp2:=KW.out _ _ _ _ _ _ _ s1 gs nF1 (fun e=>by have h9:0<w1.heap.size:=HP1.out.me.tab.lt;omega);refine⟨gB.cell (by omega),gB.frozen 0,gB.lt,s1.me.hd.lt,(KX.out _ F1 _ hp2 (gB2.cell (by omega)) gB2.lt nF1).mono ?_⟩;rintro e w'⟨he,hl⟩;refine⟨he,?_,Led.trans G1.out Q1.out (Led.trans (F1:=F1) (s2.trans gs (fun i q=>.inr (by rw[q];exact Nat.le_refl _))) (fun i q=>.inl q) hl)⟩;obtain⟨F2,h2,g2,q2⟩:=hl;rw[g2.cell (p:=⟨w1.heap.size,0,none⟩) gB2.lt nF1];exact gB2.cell (by omega)
 have KZ:Hid (∀wq,Fr NoF (w1.alloc (.cells #[.int .i64 z] 3)) wq->∀ws,ws=wq.setCell ⟨p.pb,10,none⟩ (.int .i64 ((T.sc:Int)+1))->Calls prog 82 #[.pointer (some ⟨p.pb,7,none⟩)] ws fun e w'=>e=.returned (.int .i64 x0)∧w'.cell? ⟨w1.heap.size,0,none⟩=some (.int .i64 z)∧w'.frozen? ⟨w1.heap.size,0,none⟩=false∧w1.heap.size<w'.heap.size∧p.pb<w'.heap.size∧Calls prog 69 #[.pointer (some ⟨p.pb,0,none⟩),.func (.func 108) #[] #[.pointer (some ⟨w1.heap.size,0,none⟩)]] (w'.setCell ⟨w1.heap.size,0,none⟩ (.int .i64 x0)) fun e w'=>e=.returned (.tuple #[])∧w'.cell? ⟨w1.heap.size,0,none⟩=some (.int .i64 x0)∧Led (PI RR p {T with A:=P.remove (P.aft T.A id) x0,sc:=T.sc+1} (m+1)) F w w'):=fun wq hq ws hs=>by
  have K0:=KY.out wq hq ws hs;subst hs;refine(KI.out _ _ (KS.out w1 wq F1 HP1.out (((Fr.refl NoF w1).alloc _).trans hq (fun _ q=>q.elim))).1).mono ?_;rintro e w'⟨he,rfl⟩;exact⟨he,K0⟩
 clear KX KI KT KW KN KS KY
 cases b with
 |false=>
  go_wp2_with fail
  go_quiet (fail)
  go_wp2_with fail
  refine(KZ.out _ ((Fr.refl NoF _).drewN _) _ rfl).mono ?_;rintro e w2⟨rfl,u1,u2,u3,u5,u4⟩;have U4:=Hd u4;clear u4
  go_wp2_with fail
  refine U4.out.mono ?_;rintro e w4⟨rfl,v1,v2⟩;have V2:=Hd v2;clear v2;go_wp2;go_returns;exact⟨rfl,V2.out⟩
 |true=>
  have HH:=Hd (KH.out w1 F1 z HP1.out (hz rfl))
  go_wp2_with fail
  go_quiet ((go_at_call 78;exact qs (HH.out _ _)))
  go_wp2_with fail
  refine(KZ.out _ ((Fr.refl NoF _).drewN _) _ rfl).mono ?_;rintro e w2⟨rfl,u1,u2,u3,u5,u4⟩;have U4:=Hd u4;clear u4
  go_wp2_with fail
  refine U4.out.mono ?_;rintro e w4⟨rfl,v1,v2⟩;have V2:=Hd v2;clear v2;go_wp2;go_returns;exact⟨rfl,V2.out⟩
end
def fstB(n:Nat)(I:Nat->Bool):Option Nat:=(List.range n).find? I
theorem fstB_some{n x:Nat}{I:Nat->Bool}(h:fstB n I=some x):x<n∧IsLeast I x:=by
 unfold fstB at h;obtain⟨h1,l1,l2,h2,h3⟩:=List.find?_eq_some_iff_append.1 h;have hl:(List.range n).length=n:=List.length_range;have hx:(List.range n)[l1.length]?=some x:=by rw[h2];simp
 have hlt:l1.length<n:=by
  rw[<-hl,h2];simp
 rw[List.getElem?_range hlt]at hx;obtain rfl:l1.length=x:=by simpa using hx
 refine⟨hlt,h1,fun y hy=>?_⟩;have hy2:(List.range n)[y]?=some y:=List.getElem?_range (by omega);rw[h2,List.getElem?_append_left hy]at hy2;have:=h3 y (List.mem_of_getElem? hy2);simpa using this
theorem fstB_none{n:Nat}{I:Nat->Bool}(h:fstB n I=none):∀x,x<n->I x=false:=by
 unfold fstB at h;intro x hx;have:=List.find?_eq_none.1 h x (List.mem_range.2 hx);simpa using this
theorem fstB_is{n x:Nat}{I:Nat->Bool}(hx:x<n)(h:IsLeast I x):fstB n I=some x:=by
 cases e:fstB n I with
 |none=>have:=fstB_none e x hx;rw[h.1]at this;cases this
 |some y=>
  obtain⟨h1,h2⟩:=fstB_some e;rcases Nat.lt_trichotomy x y with q|q|q
  .have:=h2.2 x q;rw[h.1]at this;cases this
  .rw[q]
  .have:=h.2 y q;rw[h2.1]at this;cases this
def vicX{τ:Type}(P:Adv τ)(n:Nat)(A:τ)(I:Nat->Bool)(id:Nat):Nat×τ×Nat:=
 match P.victim A id with
 |none=>((fstB n I).getD 0,P.remove (P.aft A id) ((fstB n I).getD 0),1)
 |some a=>if I a=true then(a,P.aft A id,0)else((fstB n I).getD 0,P.remove (P.aft A id) ((fstB n I).getD 0),1)
section
variable{τ:Type}{P:Adv τ}{RR:World->τ->(Nat->Prop)->Prop}{ok:Nat->τ->(Nat->Nat)->(Nat->Bool)->Prop}{p:PP}(S:RepSys P RR p.pb p.rv p.n ok){w w':World}{T:PT τ}{m:Nat}{F:Nat->Prop}
theorem vicX_yes{n:Nat}{A:τ}{I:Nat->Bool}{id a:Nat}(h:P.victim A id=some a)(hI:I a=true):vicX P n A I id=(a,P.aft A id,0):=by unfold vicX;rw[h];simp[hI]
theorem vicX_no{n:Nat}{A:τ}{I:Nat->Bool}{id x:Nat}(h:∀a,P.victim A id=some a->I a=false)(hx:fstB n I=some x):vicX P n A I id=(x,P.remove (P.aft A id) x,1):=by
 unfold vicX;rw[hx]
 cases e:P.victim A id with
 |none=>rfl
 |some a=>simp[h a e]
theorem vic_case(A:τ)(I:Nat->Bool)(id:Nat):(∃a,P.victim A id=some a∧I a=true)∨∀a,P.victim A id=some a->I a=false:=by
 cases e:P.victim A id with
 |none=>exact .inr (fun a h=>by cases h)
 |some a=>
  cases h:I a with
  |true=>exact .inl ⟨a,rfl,h⟩
  |false=>exact .inr (fun b hb=>by cases hb;exact h)
include S
theorem disk_write(H:PI RR p T m w F)(hm:m<80000){id v:Nat}(hu:id<4294967296):Calls prog 94 #[.pointer (some ⟨p.db,0,none⟩),.int .u32 id,.int .u64 v] w fun e w'=>e=.returned (.int .i64 (T.D.write id v).1)∧Led (PI RR p {T with D:=(T.D.write id v).2} (m+1)) F w w':=
 H.disk S (Q:=fun e _=>e=.returned (.int .i64 (T.D.write id v).1)) (Nat.le_succ m) (fun FD hd=>cd_write hd (by omega) (by unfold isU32D;omega) v)
theorem pi_clean_no(H:PI RR p T m w F){k:Nat}(hk:k<p.n)(hd:(T.f k).dirty=false):Calls prog 71 #[p.ptr,.int .i64 k] w fun e w'=>e=.returned (.int .i64 0)∧Led (PI RR p T m) F w w':=by
 refine(clean_no H.me hk hd).mono ?_;rintro e w'⟨he,rfl⟩;exact⟨he,Led.refl H⟩
theorem pi_clean(H:PI RR p T m w F)(hm:m<80000){k:Nat}(hk:k<p.n)(hd:(T.f k).dirty=true):Calls prog 71 #[p.ptr,.int .i64 k] w fun e w'=>e=.returned (.int .i64 (T.D.write (T.f k).id (T.f k).val).1)∧
  ∃w1,Led (PI RR p {T with D:=(T.D.write (T.f k).id (T.f k).val).2} (m+1)) F w w1∧(¬(T.D.write (T.f k).id (T.f k).val).1=0->w'=w1)∧((T.D.write (T.f k).id (T.f k).val).1=0->w'=w1.setCell ⟨p.fb,k*4+3,none⟩ (.bool false)):=
 clean_calls (R:=fun w1=>Led (PI RR p {T with D:=(T.D.write (T.f k).id (T.f k).val).2} (m+1)) F w w1) H.me hk hd (fun w0 f0=>by
  refine(disk_write S (H.fr0 S f0) hm (H.me.bd.2 k).1).mono ?_;rintro e w'⟨he,hl⟩;exact⟨he,Led.trans (f0.mono (fun _ q=>q.elim)) (fun i q=>.inl q) hl⟩) (fun w1 ⟨F1,h,_⟩=>h.me)
theorem pi_clean_err(H:PI RR p T m w F)(hm:m<80000){k:Nat}(hk:k<p.n)(hd:(T.f k).dirty=true)(he:¬(T.D.write (T.f k).id (T.f k).val).1=0):Calls prog 71 #[p.ptr,.int .i64 k] w fun e w'=>e=.returned (.int .i64 (T.D.write (T.f k).id (T.f k).val).1)∧
  Led (PI RR p {T with D:=(T.D.write (T.f k).id (T.f k).val).2} (m+1)) F w w':=by
 refine(pi_clean S H hm hk hd).mono ?_;rintro e w'⟨h0,w1,h1,h2,_⟩;rw[h2 he];exact⟨h0,h1⟩
theorem pi_clean_ok(H:PI RR p T m w F)(hm:m<80000){k:Nat}(hk:k<p.n)(hd:(T.f k).dirty=true)(he:(T.D.write (T.f k).id (T.f k).val).1=0):Calls prog 71 #[p.ptr,.int .i64 k] w fun e w'=>e=.returned (.int .i64 0)∧
  Led (PI RR p {T with f:=upd T.f k {T.f k with dirty:=false},D:=(T.D.write (T.f k).id (T.f k).val).2} (m+1)) F w w':=by
 refine(pi_clean S H hm hk hd).mono ?_;rintro e w'⟨h0,w1,⟨F1,h1,g1,q1⟩,_,h3⟩;rw[h3 he];rw[he]at h0;obtain⟨z1,z2⟩:=h1.me.put1 (m':=m+1) (j:=3) hk {T.f k with dirty:=false} (.bool false) (frV_setd T.f k false) (Nat.le_refl _) (h1.me.bd.2 k);exact⟨h0,Led.trans g1 q1 (h1.set z1 (z2.mono (fun i q=>.inr (.inl q))) (Nat.le_refl _) S)⟩
theorem pi_vacate(H:PI RR p T m w F)(hm:m<80000){k:Nat}(hk:k<p.n)(hE:T.E k=false):Calls prog 86 #[p.ptr,.int .i64 k] w fun e w'=>e=.returned (.tuple #[])∧
  Led (PI RR p {T with f:=upd T.f k zF,pl:=updO T.pl (T.f k).id (some (-1)),E:=updB T.E k true,I:=updB T.I k false} (m+1)) F w w':=by
 refine(vacate_calls H.me (by omega) hk hE).mono ?_;rintro e w'⟨he,h,g⟩;exact⟨he,H.set h g (by omega) S⟩
theorem victim_calls(H:PI RR p T m w F)(hm:m<80000){id x0:Nat}(h1:1<=id)(hu:id<4294967296){pg:Nat->Nat}{ev:Nat->Bool}(ho:ok m T.A pg ev)(hno:∀i,i<p.n->¬pg i=id)(hg:∀x,T.I x=true↔Goer p.n pg ev x)(hx0:fstB p.n T.I=some x0):Calls prog 83 #[p.ptr,.int .u32 id] w fun e w'=>e=.returned (.int .i64 (vicX P p.n T.A T.I id).1)∧
  Led (PI RR p {T with A:=(vicX P p.n T.A T.I id).2.1,sc:=T.sc+(vicX P p.n T.A T.I id).2.2} (m+1)) F w w':=by
 obtain⟨h2,h3⟩:=fstB_some hx0;rcases vic_case (P:=P) T.A T.I id with⟨a,ha,hI⟩|hv
 .rw[vicX_yes ha hI]
  refine(victim_yes S H hm h1 hu ho hno ⟨x0,(hg x0).1 h3.1⟩ ha hI).mono ?_;rintro e w'⟨he,hl⟩;exact⟨he,hl.mono (fun F' h=>h.more (by omega))⟩
 .rw[vicX_no hv hx0]
  exact victim_no S H hm h1 hu ho hno ((hg x0).1 h3.1) (fun x q=>(hg x).1 q) (fun x q=>(hg x).2 q) hv h3
theorem vic_goer{A:τ}{I:Nat->Bool}{id x0:Nat}{pg:Nat->Nat}{ev:Nat->Bool}(hg:∀x,I x=true↔Goer p.n pg ev x)(hx0:fstB p.n I=some x0):Goer p.n pg ev (vicX P p.n A I id).1:=by
 obtain⟨h2,h3⟩:=fstB_some hx0;rcases vic_case (P:=P) A I id with⟨a,ha,hI⟩|hv
 .rw[vicX_yes ha hI];exact(hg a).1 hI
 .rw[vicX_no hv hx0];exact(hg x0).1 h3.1
theorem vic_ok{A:τ}{I:Nat->Bool}{id x0:Nat}{pg:Nat->Nat}{ev:Nat->Bool}(hm:m<80000)(h1:1<=id)(ho:ok m A pg ev)(hno:∀i,i<p.n->¬pg i=id)(hg:∀x,I x=true↔Goer p.n pg ev x)(hx0:fstB p.n I=some x0):
  ok (m+2) (vicX P p.n A I id).2.1 (upd pg (vicX P p.n A I id).1 0) (upd ev (vicX P p.n A I id).1 false):=by
 obtain⟨h2,h3⟩:=fstB_some hx0;rcases vic_case (P:=P) A I id with⟨a,ha,hI⟩|hv
 .rw[vicX_yes ha hI]
  exact S.more (S.okYes ho (by omega) h1 hno ha ((hg a).1 hI)) (by omega)
 .rw[vicX_no hv hx0]
  exact S.okRem (S.okNo ho (by omega) h1 hno (fun a ha q=>by have:=hv a ha;rw[(hg a).2 q]at this;cases this)) (by omega) h2 ((hg x0).1 h3.1).2.1
end
end
end Go.Proofs.YtoenclhimbpfeaaGreatDoor
