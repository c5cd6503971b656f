/- Part 33. -/
import Derived.Test.YtoenclhimbpfeaaGreatDoorW32
namespace Go.Proofs.YtoenclhimbpfeaaGreatDoor
set_option linter.all false
set_option maxHeartbeats 16000000
set_option maxRecDepth 100000
section
open Go.Maps Go.Proofs.Tryz Go.RowKit
section
variable{τ:Type}{P:Adv τ}{RR:World->τ->(Nat->Prop)->Prop}{ok:Nat->τ->(Nat->Nat)->(Nat->Bool)->Prop}{p:PP}(S:aJ P RR p.pb p.rv p.n ok){w w':World}{T:PT τ}{m:Nat}{F:Nat->Prop}
include S
theorem zq(H:PI RR p T m w F)(hm:m<80000){id:Nat}(h1:1<=id)(hu:id<4294967296){pg:Nat->Nat}{ev:Nat->Bool}(ho:ok m T.A pg ev)(hno:∀i,i<p.n->¬pg i=id)(hex:∃x,bk p.n pg ev x)(hv:P.victim T.A id=none):Calls prog 107 #[p.ptr,.int .u32 id] w λe w'=>(∃x:Int,e=.returned (.tuple #[.int .i64 x,.bool false]))/\
  Led (PI RR p {T with A:=P.aft T.A id} m) F w w':=H.told S (Q:=λe _=>∃x:Int,e=.returned (.tuple #[.int .i64 x,.bool false])) (λFR hr hF hp=>by
   have:=S.ask (pb:=p.pb) hr ho (by omega) h1 hu hno hex (H.me.ce 1 (by omega)) H.me.hd.lt hp;rw[hv]at this;exact this)
theorem rq(H:PI RR p T m w F)(hm:m<80000){id a:Nat}(h1:1<=id)(hu:id<4294967296){pg:Nat->Nat}{ev:Nat->Bool}(ho:ok m T.A pg ev)(hno:∀i,i<p.n->¬pg i=id)(hex:∃x,bk p.n pg ev x)(hv:P.victim T.A id=some a):Calls prog 107 #[p.ptr,.int .u32 id] w λe w'=>e=.returned (.tuple #[.int .i64 a,.bool true])/\
  Led (PI RR p {T with A:=P.aft T.A id} m) F w w':=H.told S (Q:=λe _=>e=.returned (.tuple #[.int .i64 a,.bool true])) (λFR hr hF hp=>by
   have:=S.ask (pb:=p.pb) hr ho (by omega) h1 hu hno hex (H.me.ce 1 (by omega)) H.me.hd.lt hp;rw[hv]at this;exact this)
theorem tt(H:PI RR p T m w F)(hm:m<80000){id a:Nat}(h1:1<=id)(hu:id<4294967296){pg:Nat->Nat}{ev:Nat->Bool}(ho:ok m T.A pg ev)(hno:∀i,i<p.n->¬pg i=id)(hex:∃x,bk p.n pg ev x)(hv:P.victim T.A id=some a)(hI:T.I a=true):Calls prog 83 #[p.ptr,.int .u32 id] w λe w'=>e=.returned (.int .i64 a)/\
  Led (PI RR p {T with A:=P.aft T.A id} m) F w w':=by
 have HA:=Hd (rq S H hm h1 hu ho hno hex hv)
 have KH:Hid (∀w1 F1,PI RR p {T with A:=P.aft T.A id} m w1 F1->∀(t:TypeId) d,Calls prog 78 #[.pointer (some ⟨p.pb,7,none⟩),.int .i64 a] ((w1.alloc (.cells #[.int .i64 a] t)).drewN d) λe w'=>e=.returned (.bool true)/\((w1.alloc (.cells #[.int .i64 a] t)).drewN d)=w'):=λw1 F1 h t d=>by
  have:=uB (h.fr0 S (((Fr.refl NoF w1).alloc (.cells #[.int .i64 a] t)).drewN d)).me (a:Int)
  dsimp only at this
  rw[show gL T.I (a:Int)=true from by unfold gL;rw[if_neg (by omega)];exact hI]at this;exact this
 have KL:Hid (∀w1 F1,PI RR p {T with A:=P.aft T.A id} m w1 F1->p.pb<w1.heap.size):=λw1 F1 h=>h.me.hd.lt
 have KF:Hid (∀w1 F1,PI RR p {T with A:=P.aft T.A id} m w1 F1->∀(t:TypeId) d,PI RR p {T with A:=P.aft T.A id} m ((w1.alloc (.cells #[.int .i64 a] t)).drewN d) F1):=λw1 F1 h t d=>h.fr0 S (((Fr.refl NoF w1).alloc _).drewN d)
 unfold PP.ptr at*;clear H S ho hno hex hv hI hu;go_enter func83,ntmps83
 go_wp2_with fail
 refine HA.out.mono ?_;rintro e w1⟨rfl,F1,hp1,g1,q1⟩;have lb:=KL.out w1 F1 hp1;have HH:=Hd (KH.out w1 F1 hp1);have HP1:=Hd hp1;have G1:=Hd g1;have Q1:=Hd q1;clear hp1 g1 q1
 go_wp2_with fail
 obtain⟨x1,x2,x3⟩:=oT w1 (.int .i64 a) 3;have xl:p.pb<(w1.alloc (.cells #[.int .i64 a] 3)).heap.size:=by omega
 go_quiet ((go_at_call 78;exact qs (HH.out _ _)))
 go_wp2;go_returns;exact⟨rfl,F1,KF.out w1 F1 HP1.out _ _,G1.out.trans (((Fr.refl _ w1).alloc _).drewN _) (λi q=>.inl q),Q1.out⟩
theorem xj(H:PI RR p T m w F)(hm:m<80000){id x0:Nat}(h1:1<=id)(hu:id<4294967296){pg:Nat->Nat}{ev:Nat->Bool}(ho:ok m T.A pg ev)(hno:∀i,i<p.n->¬pg i=id)(hg:bk p.n pg ev x0)(hgI:∀x,T.I x=true->bk p.n pg ev x)(hgJ:∀x,bk p.n pg ev x->T.I x=true)(hv:∀a,P.victim T.A id=some a->T.I a=false)(hx0:aT T.I x0):Calls prog 83 #[p.ptr,.int .u32 id] w λe w'=>e=.returned (.int .i64 x0)/\
  Led (PI RR p {T with A:=P.remove (P.aft T.A id) x0,sc:=T.sc+1} (m+1)) F w w':=by
 have okN:=S.okNo ho (by omega) h1 hno (λa ha q=>by have:=hv a ha;rw[hgJ a q]at this;cases this)
 have HA:Hid (∃b:Bool,Calls prog 107 #[p.ptr,.int .u32 id] w λe w'=>(∃x:Int,e=.returned (.tuple #[.int .i64 x,.bool b])/\(b=true->gL T.I x=false))/\Led (PI RR p {T with A:=P.aft T.A id} m) F w w'):=by
  cases hva:P.victim T.A id with
  |none=>
   refine⟨false,(zq S H hm h1 hu ho hno ⟨x0,hg⟩ hva).mono ?_⟩;rintro e w'⟨⟨x,he⟩,h⟩;exact⟨⟨x,he,λq=>by cases q⟩,h⟩
  |some a=>
   refine⟨true,(rq S H hm h1 hu ho hno ⟨x0,hg⟩ hva).mono ?_⟩;rintro e w'⟨he,h⟩;exact⟨⟨a,he,λq=>by unfold gL;rw[if_neg (by omega)];exact hv a hva⟩,h⟩
 have KH:Hid (∀w1 F1 (x:Int),PI RR p {T with A:=P.aft T.A id} m w1 F1->gL T.I x=false->∀(t:TypeId) d,Calls prog 78 #[.pointer (some ⟨p.pb,7,none⟩),.int .i64 x] ((w1.alloc (.cells #[.int .i64 x] t)).drewN d) λe w'=>e=.returned (.bool false)/\((w1.alloc (.cells #[.int .i64 x] t)).drewN d)=w'):=λw1 F1 x h hx t d=>by
  have:=uB (h.fr0 S (((Fr.refl NoF w1).alloc (.cells #[.int .i64 x] t)).drewN d)).me x
  dsimp only at this
  rw[hx]at this;exact this
 have KS:Hid (∀w1 wq F1,PI RR p {T with A:=P.aft T.A id} m w1 F1->Fr NoF w1 wq->PI RR p {T with A:=P.aft T.A id,sc:=T.sc+1} (m+1) (wq.setCell ⟨p.pb,10,none⟩ (.int .i64 ((T.sc:Int)+1))) F1/\Fr F1 w1 (wq.setCell ⟨p.pb,10,none⟩ (.int .i64 ((T.sc:Int)+1)))/\Fr p.own wq (wq.setCell ⟨p.pb,10,none⟩ (.int .i64 ((T.sc:Int)+1)))):=λw1 wq F1 h0 f0=>by
  have h:=h0.fr0 S f0;obtain⟨q1,q2⟩:=h.me.scan (x:=T.sc+1) (m':=m+1) (by have q0:T.sc<=m:=h.me.bd.1;omega) (by omega);obtain⟨FD,FR,H,hF⟩:=h;have g:Fr p.own wq (wq.setCell ⟨p.pb,10,none⟩ (.int .i64 ((T.sc:Int)+1))):=q2.mono (λi q=>.inl q);exact⟨⟨FD,FR,⟨q1,(H.cd.fr g (λi q k=>(H.s1 i k).1 q)).more (by omega),S.fr H.rr g (λi q k=>(H.s1 i k).2 q),H.s1,H.s2,H.t1⟩,hF⟩,(f0.mono (λ_ q=>q.elim)).trans g (λi q=>.inl ((hF i).2 (.inl q))),g⟩
 have KL:Hid (∀w1 F1 (A:τ) (sc k:Nat),PI RR p {T with A:=A,sc:=sc} k w1 F1->p.pb<w1.heap.size/\w1.cell? ⟨p.pb,10,none⟩=some (.int .i64 sc)/\w1.frozen? ⟨p.pb,10,none⟩=false/\∀i,F1 i->i<w1.heap.size):=λw1 F1 A sc k h=>⟨h.me.hd.lt,h.me.ce 10 (by omega),h.me.hd.frozen 10,h.lt S⟩
 have KN:Hid (∀w1 w2 F1 (A:τ) (sc k:Nat),PI RR p {T with A:=A,sc:=sc} k w1 F1->Fr NoF w1 w2->PI RR p {T with A:=A,sc:=sc} k w2 F1):=λw1 w2 F1 A sc k h g=>h.fr0 S g
 have KW:Hid (∀w1 w2 F1 b (A:τ) (sc k:Nat),PI RR p {T with A:=A,sc:=sc} k w1 F1->Fr (λi=>i=b) w1 w2->¬F1 b->¬b=0->PI RR p {T with A:=A,sc:=sc} k w2 F1):=λw1 w2 F1 b A sc k h g q q2=>h.fro S g (λi q3 q4=>q (q4▸q3)) (λq3=>q2 q3.symm)
 have KT:Hid (∀w1 F1,PI RR p {T with A:=P.aft T.A id,sc:=T.sc+1} (m+1) w1 F1->0<w1.heap.size):=λw1 F1 h=>h.me.tab.lt
 have KI:Hid (∀w1 F1,PI RR p {T with A:=P.aft T.A id,sc:=T.sc+1} (m+1) w1 F1->Calls prog 82 #[.pointer (some ⟨p.pb,7,none⟩)] w1 λe w'=>e=.returned (.int .i64 x0)/\w1=w'):=λw1 F1 h=>by
  refine(xE h.me).mono ?_;rintro e w'⟨rfl,⟨_,q,_⟩|⟨x,hx,hl,he⟩⟩
  .have hq:T.I x0=false:=q x0
   rw[hx0.1]at hq;cases hq
  .have l1:T.I x=true:=hl.1
   have l2:∀y,y<x->T.I y=false:=hl.2
   have e:x=x0:=by
    rcases Nat.lt_trichotomy x x0 with q|q|q
    .have:=hx0.2 x q;rw[l1]at this;cases this
    .exact q
    .have:=l2 x0 q;rw[hx0.1]at this;cases this
   rw[e]at he;exact⟨he,rfl⟩
 have KX:Hid (∀w3 F3 b,PI RR p {T with A:=P.aft T.A id,sc:=T.sc+1} (m+1) w3 F3->w3.cell? ⟨b,0,none⟩=some (.int .i64 x0)->b<w3.heap.size->¬F3 b->
  Calls prog 69 #[p.ptr,.func (.func 108) #[] #[.pointer (some ⟨b,0,none⟩)]] w3 λe w'=>e=.returned (.tuple #[])/\Led (PI RR p {T with A:=P.remove (P.aft T.A id) x0,sc:=T.sc+1} (m+1)) F3 w3 w'):=
  λw3 F3 b h3 q1 q2 q3=>h3.tell1 S E7 (λFR hr hF=>S.rem hr okN (by omega) hg.1 hg.2.1 q1 q2 (λq=>q3 (hF _ q)) (.inl rfl))
 have hsc:T.sc<900000:=by have:=H.me.bd.1;omega
 unfold PP.ptr at*;clear H S ho hno hv hgI hgJ hg hx0 hu okN;go_enter func83,ntmps83
 go_wp2_with fail
 obtain⟨b,HC⟩:=HA.out;refine HC.mono ?_;clear HC HA;rintro e w1⟨⟨z,rfl,hz⟩,F1,hp1,g1,q1⟩;obtain⟨lb,y1,y2,y3⟩:=KL.out w1 F1 _ _ _ hp1;have nF1:¬F1 w1.heap.size:=λq=>by have:=y3 _ q;omega
 clear y3;have HP1:=Hd hp1;have G1:=Hd g1;have Q1:=Hd q1;clear hp1 g1 q1;obtain⟨x1,x2,x3⟩:=oT w1 (.int .i64 z) 3;have X3:=Hd x3;have x4:(w1.alloc (.cells #[.int .i64 z] 3)).cell? ⟨p.pb,10,none⟩=some (.int .i64 T.sc):=by rw[x3.cell (p:=⟨p.pb,10,none⟩) lb (λq=>q)];exact y1
 have xl:p.pb<(w1.alloc (.cells #[.int .i64 z] 3)).heap.size:=by omega
 have x5:(w1.alloc (.cells #[.int .i64 z] 3)).frozen? ⟨p.pb,10,none⟩=false:=by rw[x3.frozen (p:=⟨p.pb,10,none⟩) lb (λq=>q)];exact y2
 clear x3 y1 y2;have hcw:IntKind.i64.wrap ((T.sc:Int)+1)=(T.sc:Int)+1:=IntWalk.i64_in _ (by omega)
 have KY:Hid (∀wq,Fr NoF (w1.alloc (.cells #[.int .i64 z] 3)) wq->∀ws,ws=wq.setCell ⟨p.pb,10,none⟩ (.int .i64 ((T.sc:Int)+1))->ws.cell? ⟨w1.heap.size,0,none⟩=some (.int .i64 z)/\ws.frozen? ⟨w1.heap.size,0,none⟩=false/\w1.heap.size<ws.heap.size/\p.pb<ws.heap.size/\
   Calls prog 69 #[.pointer (some ⟨p.pb,0,none⟩),.func (.func 108) #[] #[.pointer (some ⟨w1.heap.size,0,none⟩)]] (ws.setCell ⟨w1.heap.size,0,none⟩ (.int .i64 x0)) λe w'=>e=.returned (.tuple #[])/\w'.cell? ⟨w1.heap.size,0,none⟩=some (.int .i64 x0)/\Led (PI RR p {T with A:=P.remove (P.aft T.A id) x0,sc:=T.sc+1} (m+1)) F w w'):=λwq hq ws hs=>by
  obtain⟨s1,s2,s3⟩:=KS.out w1 wq F1 HP1.out (((Fr.refl NoF w1).alloc _).trans hq (λ_ q=>q.elim));rw[<-hs]at s1 s2 s3;have hpb:¬p.own w1.heap.size:=λq=>nF1 (HP1.out.own _ q)
  have gB:Blk ws w1.heap.size 1 (λ_=>.int .i64 z):=((vZ w1 (.int .i64 z) 3).fr hq (λq=>q)).fr s3 hpb;have gs:Fr (λi=>i=w1.heap.size) ws (ws.setCell ⟨w1.heap.size,0,none⟩ (.int .i64 x0)):=(Fr.refl (λi=>i=w1.heap.size) ws).setCell (p:=⟨w1.heap.size,0,none⟩) (.inl rfl) _
  have gB2:Blk (ws.setCell ⟨w1.heap.size,0,none⟩ (.int .i64 x0)) w1.heap.size 1 (λ_=>.int .i64 x0):=(gB.set 0 _).congr (λi hi=>by
   obtain rfl:i=0:=by omega
   rw[upd_same])
  have hp2:=KW.out _ _ _ _ _ _ _ s1 gs nF1 (λe=>by have h9:0<w1.heap.size:=HP1.out.me.tab.lt;omega);refine⟨gB.cell (by omega),gB.frozen 0,gB.lt,s1.me.hd.lt,(KX.out _ F1 _ hp2 (gB2.cell (by omega)) gB2.lt nF1).mono ?_⟩;rintro e w'⟨he,hl⟩;refine⟨he,?_,Led.trans G1.out Q1.out (Led.trans (F1:=F1) (s2.trans gs (λi q=>.inr (by rw[q];exact Nat.le_refl _))) (λi q=>.inl q) hl)⟩;obtain⟨F2,h2,g2,q2⟩:=hl;rw[g2.cell (p:=⟨w1.heap.size,0,none⟩) gB2.lt nF1];exact gB2.cell (by omega)
 have KZ:Hid (∀wq,Fr NoF (w1.alloc (.cells #[.int .i64 z] 3)) wq->∀ws,ws=wq.setCell ⟨p.pb,10,none⟩ (.int .i64 ((T.sc:Int)+1))->Calls prog 82 #[.pointer (some ⟨p.pb,7,none⟩)] ws λe w'=>e=.returned (.int .i64 x0)/\w'.cell? ⟨w1.heap.size,0,none⟩=some (.int .i64 z)/\w'.frozen? ⟨w1.heap.size,0,none⟩=false/\w1.heap.size<w'.heap.size/\p.pb<w'.heap.size/\Calls prog 69 #[.pointer (some ⟨p.pb,0,none⟩),.func (.func 108) #[] #[.pointer (some ⟨w1.heap.size,0,none⟩)]] (w'.setCell ⟨w1.heap.size,0,none⟩ (.int .i64 x0)) λe w'=>e=.returned (.tuple #[])/\w'.cell? ⟨w1.heap.size,0,none⟩=some (.int .i64 x0)/\Led (PI RR p {T with A:=P.remove (P.aft T.A id) x0,sc:=T.sc+1} (m+1)) F w w'):=λwq hq ws hs=>by
  have K0:=KY.out wq hq ws hs;subst hs;refine(KI.out _ _ (KS.out w1 wq F1 HP1.out (((Fr.refl NoF w1).alloc _).trans hq (λ_ q=>q.elim))).1).mono ?_;rintro e w'⟨he,rfl⟩;exact⟨he,K0⟩
 clear KX KI KT KW KN KS KY
 cases b with
 |false=>
  go_wp2_with fail
  go_quiet (fail)
  go_wp2_with fail
  refine(KZ.out _ ((Fr.refl NoF _).drewN _) _ rfl).mono ?_;rintro e w2⟨rfl,u1,u2,u3,u5,u4⟩;have U4:=Hd u4;clear u4
  go_wp2_with fail
  refine U4.out.mono ?_;rintro e w4⟨rfl,v1,v2⟩;have V2:=Hd v2;clear v2;go_wp2;go_returns;exact⟨rfl,V2.out⟩
 |true=>
  have HH:=Hd (KH.out w1 F1 z HP1.out (hz rfl))
  go_wp2_with fail
  go_quiet ((go_at_call 78;exact qs (HH.out _ _)))
  go_wp2_with fail
  refine(KZ.out _ ((Fr.refl NoF _).drewN _) _ rfl).mono ?_;rintro e w2⟨rfl,u1,u2,u3,u5,u4⟩;have U4:=Hd u4;clear u4
  go_wp2_with fail
  refine U4.out.mono ?_;rintro e w4⟨rfl,v1,v2⟩;have V2:=Hd v2;clear v2;go_wp2;go_returns;exact⟨rfl,V2.out⟩
end
def fstB(n:Nat)(I:Nat->Bool):Option Nat:=(List.range n).find? I
theorem aS{n x:Nat}{I:Nat->Bool}(h:fstB n I=some x):x<n/\aT I x:=by
 unfold fstB at h;obtain⟨h1,l1,l2,h2,h3⟩:=List.find?_eq_some_iff_append.1 h;have hl:(List.range n).length=n:=List.length_range;have hx:(List.range n)[l1.length]?=some x:=by rw[h2];simp
 have hlt:l1.length<n:=by
  rw[<-hl,h2];simp
 rw[List.getElem?_range hlt]at hx;obtain rfl:l1.length=x:=by simpa using hx
 refine⟨hlt,h1,λy hy=>?_⟩;have hy2:(List.range n)[y]?=some y:=List.getElem?_range (by omega);rw[h2,List.getElem?_append_left hy]at hy2;have:=h3 y (List.mem_of_getElem? hy2);simpa using this
theorem bL{n:Nat}{I:Nat->Bool}(h:fstB n I=none):∀x,x<n->I x=false:=by
 unfold fstB at h;intro x hx;have:=List.find?_eq_none.1 h x (List.mem_range.2 hx);simpa using this
theorem nZ{n x:Nat}{I:Nat->Bool}(hx:x<n)(h:aT I x):fstB n I=some x:=by
 cases e:fstB n I with
 |none=>have:=bL e x hx;rw[h.1]at this;cases this
 |some y=>
  obtain⟨h1,h2⟩:=aS e;rcases Nat.lt_trichotomy x y with q|q|q
  .have:=h2.2 x q;rw[h.1]at this;cases this
  .rw[q]
  .have:=h.2 y q;rw[h2.1]at this;cases this
def gR{τ:Type}(P:Adv τ)(n:Nat)(A:τ)(I:Nat->Bool)(id:Nat):Nat×τ×Nat:=
 match P.victim A id with
 |none=>((fstB n I).getD 0,P.remove (P.aft A id) ((fstB n I).getD 0),1)
 |some a=>if I a=true then(a,P.aft A id,0)else((fstB n I).getD 0,P.remove (P.aft A id) ((fstB n I).getD 0),1)
section
variable{τ:Type}{P:Adv τ}{RR:World->τ->(Nat->Prop)->Prop}{ok:Nat->τ->(Nat->Nat)->(Nat->Bool)->Prop}{p:PP}(S:aJ P RR p.pb p.rv p.n ok){w w':World}{T:PT τ}{m:Nat}{F:Nat->Prop}
theorem iS{n:Nat}{A:τ}{I:Nat->Bool}{id a:Nat}(h:P.victim A id=some a)(hI:I a=true):gR P n A I id=(a,P.aft A id,0):=by unfold gR;rw[h];simp[hI]
theorem oB{n:Nat}{A:τ}{I:Nat->Bool}{id x:Nat}(h:∀a,P.victim A id=some a->I a=false)(hx:fstB n I=some x):gR P n A I id=(x,P.remove (P.aft A id) x,1):=by
 unfold gR;rw[hx]
 cases e:P.victim A id with
 |none=>rfl
 |some a=>simp[h a e]
theorem vic_case(A:τ)(I:Nat->Bool)(id:Nat):(∃a,P.victim A id=some a/\I a=true)\/∀a,P.victim A id=some a->I a=false:=by
 cases e:P.victim A id with
 |none=>exact .inr (λa h=>by cases h)
 |some a=>
  cases h:I a with
  |true=>exact .inl ⟨a,rfl,h⟩
  |false=>exact .inr (λb hb=>by cases hb;exact h)
include S
theorem tG(H:PI RR p T m w F)(hm:m<80000){id v:Nat}(hu:id<4294967296):Calls prog 94 #[.pointer (some ⟨p.db,0,none⟩),.int .u32 id,.int .u64 v] w λe w'=>e=.returned (.int .i64 (T.D.write id v).1)/\Led (PI RR p {T with D:=(T.D.write id v).2} (m+1)) F w w':=
 H.disk S (Q:=λe _=>e=.returned (.int .i64 (T.D.write id v).1)) (Nat.le_succ m) (λFD hd=>zW hd (by omega) (by unfold aN;omega) v)
theorem jK(H:PI RR p T m w F){k:Nat}(hk:k<p.n)(hd:(T.f k).dirty=false):Calls prog 71 #[p.ptr,.int .i64 k] w λe w'=>e=.returned (.int .i64 0)/\Led (PI RR p T m) F w w':=by
 refine(Bj H.me hk hd).mono ?_;rintro e w'⟨he,rfl⟩;exact⟨he,Led.refl H⟩
theorem qd(H:PI RR p T m w F)(hm:m<80000){k:Nat}(hk:k<p.n)(hd:(T.f k).dirty=true):Calls prog 71 #[p.ptr,.int .i64 k] w λe w'=>e=.returned (.int .i64 (T.D.write (T.f k).id (T.f k).val).1)/\
  ∃w1,Led (PI RR p {T with D:=(T.D.write (T.f k).id (T.f k).val).2} (m+1)) F w w1/\(¬(T.D.write (T.f k).id (T.f k).val).1=0->w'=w1)/\((T.D.write (T.f k).id (T.f k).val).1=0->w'=w1.setCell ⟨p.fb,k*4+3,none⟩ (.bool false)):=
 pL (R:=λw1=>Led (PI RR p {T with D:=(T.D.write (T.f k).id (T.f k).val).2} (m+1)) F w w1) H.me hk hd (λw0 f0=>by
  refine(tG S (H.fr0 S f0) hm (H.me.bd.2 k).1).mono ?_;rintro e w'⟨he,hl⟩;exact⟨he,Led.trans (f0.mono (λ_ q=>q.elim)) (λi q=>.inl q) hl⟩) (λw1 ⟨F1,h,_⟩=>h.me)
theorem i8(H:PI RR p T m w F)(hm:m<80000){k:Nat}(hk:k<p.n)(hd:(T.f k).dirty=true)(he:¬(T.D.write (T.f k).id (T.f k).val).1=0):Calls prog 71 #[p.ptr,.int .i64 k] w λe w'=>e=.returned (.int .i64 (T.D.write (T.f k).id (T.f k).val).1)/\
  Led (PI RR p {T with D:=(T.D.write (T.f k).id (T.f k).val).2} (m+1)) F w w':=by
 refine(qd S H hm hk hd).mono ?_;rintro e w'⟨h0,w1,h1,h2,_⟩;rw[h2 he];exact⟨h0,h1⟩
theorem jE(H:PI RR p T m w F)(hm:m<80000){k:Nat}(hk:k<p.n)(hd:(T.f k).dirty=true)(he:(T.D.write (T.f k).id (T.f k).val).1=0):Calls prog 71 #[p.ptr,.int .i64 k] w λe w'=>e=.returned (.int .i64 0)/\
  Led (PI RR p {T with f:=upd T.f k {T.f k with dirty:=false},D:=(T.D.write (T.f k).id (T.f k).val).2} (m+1)) F w w':=by
 refine(qd S H hm hk hd).mono ?_;rintro e w'⟨h0,w1,⟨F1,h1,g1,q1⟩,_,h3⟩;rw[h3 he];rw[he]at h0;obtain⟨z1,z2⟩:=h1.me.put1 (m':=m+1) (j:=3) hk {T.f k with dirty:=false} (.bool false) (lI T.f k false) (Nat.le_refl _) (h1.me.bd.2 k);exact⟨h0,Led.trans g1 q1 (h1.set z1 (z2.mono (λi q=>.inr (.inl q))) (Nat.le_refl _) S)⟩
theorem mF(H:PI RR p T m w F)(hm:m<80000){k:Nat}(hk:k<p.n)(hE:T.E k=false):Calls prog 86 #[p.ptr,.int .i64 k] w λe w'=>e=.returned (.tuple #[])/\
  Led (PI RR p {T with f:=upd T.f k zF,pl:=bN T.pl (T.f k).id (some (-1)),E:=ap T.E k true,I:=ap T.I k false} (m+1)) F w w':=by
 refine(i4 H.me (by omega) hk hE).mono ?_;rintro e w'⟨he,h,g⟩;exact⟨he,H.set h g (by omega) S⟩
theorem dY(H:PI RR p T m w F)(hm:m<80000){id x0:Nat}(h1:1<=id)(hu:id<4294967296){pg:Nat->Nat}{ev:Nat->Bool}(ho:ok m T.A pg ev)(hno:∀i,i<p.n->¬pg i=id)(hg:∀x,T.I x=true↔bk p.n pg ev x)(hx0:fstB p.n T.I=some x0):Calls prog 83 #[p.ptr,.int .u32 id] w λe w'=>e=.returned (.int .i64 (gR P p.n T.A T.I id).1)/\
  Led (PI RR p {T with A:=(gR P p.n T.A T.I id).2.1,sc:=T.sc+(gR P p.n T.A T.I id).2.2} (m+1)) F w w':=by
 obtain⟨h2,h3⟩:=aS hx0;rcases vic_case (P:=P) T.A T.I id with⟨a,ha,hI⟩|hv
 .rw[iS ha hI]
  refine(tt S H hm h1 hu ho hno ⟨x0,(hg x0).1 h3.1⟩ ha hI).mono ?_;rintro e w'⟨he,hl⟩;exact⟨he,hl.mono (λF' h=>h.more (by omega))⟩
 .rw[oB hv hx0]
  exact xj S H hm h1 hu ho hno ((hg x0).1 h3.1) (λx q=>(hg x).1 q) (λx q=>(hg x).2 q) hv h3
theorem eY{A:τ}{I:Nat->Bool}{id x0:Nat}{pg:Nat->Nat}{ev:Nat->Bool}(hg:∀x,I x=true↔bk p.n pg ev x)(hx0:fstB p.n I=some x0):bk p.n pg ev (gR P p.n A I id).1:=by
 obtain⟨h2,h3⟩:=aS hx0;rcases vic_case (P:=P) A I id with⟨a,ha,hI⟩|hv
 .rw[iS ha hI];exact(hg a).1 hI
 .rw[oB hv hx0];exact(hg x0).1 h3.1
theorem Bt{A:τ}{I:Nat->Bool}{id x0:Nat}{pg:Nat->Nat}{ev:Nat->Bool}(hm:m<80000)(h1:1<=id)(ho:ok m A pg ev)(hno:∀i,i<p.n->¬pg i=id)(hg:∀x,I x=true↔bk p.n pg ev x)(hx0:fstB p.n I=some x0):
  ok (m+2) (gR P p.n A I id).2.1 (upd pg (gR P p.n A I id).1 0) (upd ev (gR P p.n A I id).1 false):=by
 obtain⟨h2,h3⟩:=aS hx0;rcases vic_case (P:=P) A I id with⟨a,ha,hI⟩|hv
 .rw[iS ha hI]
  exact S.more (S.okYes ho (by omega) h1 hno ha ((hg a).1 hI)) (by omega)
 .rw[oB hv hx0]
  exact S.okRem (S.okNo ho (by omega) h1 hno (λa ha q=>by have:=hv a ha;rw[(hg a).2 q]at this;cases this)) (by omega) h2 ((hg x0).1 h3.1).2.1
end
theorem iy{α:Type}(f:Nat->α)(k:Nat)(x y:α):upd (upd f k x) k y=upd f k y:=by
 funext i
 by_cases e:i=k
 .rw[e,upd_same,upd_same]
 .rw[aa _ _ e,aa _ _ e,aa _ _ e]
def VX{τ:Type}(P:Adv τ)(n:Nat)(T:PT τ)(id:Nat):Nat×τ×Nat:=gR P n (P.miss T.A id) T.I id
def T1X{τ:Type}(P:Adv τ)(n:Nat)(T:PT τ)(id:Nat):PT τ:={T with A:=(VX P n T id).2.1,sc:=T.sc+(VX P n T id).2.2}
def D2X{τ:Type}(P:Adv τ)(n:Nat)(T:PT τ)(id:Nat):=T.D.write (T.f (VX P n T id).1).id (T.f (VX P n T id).1).val
def T3X{τ:Type}(P:Adv τ)(n:Nat)(T:PT τ)(id:Nat):PT τ:={T1X P n T id with f:=upd T.f (VX P n T id).1 zF,pl:=bN T.pl (T.f (VX P n T id).1).id (some (-1)),E:=ap T.E (VX P n T id).1 true,I:=ap T.I (VX P n T id).1 false}
section
variable{τ:Type}{P:Adv τ}{RR:World->τ->(Nat->Prop)->Prop}{ok:Nat->τ->(Nat->Nat)->(Nat->Bool)->Prop}{p:PP}(S:aJ P RR p.pb p.rv p.n ok){w w':World}{T:PT τ}{m:Nat}{F:Nat->Prop}
include S
theorem rF(H:PI RR p T m w F)(hm:m<70000){id x0:Nat}(h1:1<=id)(hu:id<4294967296){pg:Nat->Nat}{ev:Nat->Bool}(ho:ok m T.A pg ev)(hno:∀i,i<p.n->¬pg i=id)(hx:fstB p.n T.E=some x0):Calls prog 62 #[p.ptr,.int .u32 id] w λe w'=>e=.returned (.tuple #[.int .i64 x0,.int .i64 0])/\
  Led (PI RR p {T with A:=P.miss T.A id} (m+6)) F w w':=by
 obtain⟨b1,b3,b4⟩:=oT w (.int .u32 id) 34;have H1:=H.fr0 S b4;have hlt:=H.lt S;have hnF1:¬F w.heap.size:=λq=>by have:=hlt _ q;omega
 have KT1:Hid (Calls prog 69 #[p.ptr,.func (.func 81) #[] #[.pointer (some ⟨w.heap.size,0,none⟩)]] (w.alloc (.cells #[.int .u32 id] 34)) λe w'=>e=.returned (.tuple #[])/\Led (PI RR p {T with A:=P.miss T.A id} m) F (w.alloc (.cells #[.int .u32 id] 34)) w'):=
  H1.tell1 S Ai (λFR hr hF=>S.miss hr ho (by omega) h1 hu hno b1 (by omega) (λq=>hnF1 (hF _ q)))
 have KB:Hid (∀w3 F3 (A:τ),PI RR p {T with A:=A} m w3 F3->p.pb<w3.heap.size):=λw3 F3 A h3=>h3.me.hd.lt
 obtain⟨hx1,hx2⟩:=aS hx
 have KF:Hid (∀w3 F3,PI RR p {T with A:=P.miss T.A id} m w3 F3->Calls prog 82 #[.pointer (some ⟨p.pb,4,none⟩)] w3 λe w'=>e=.returned (.int .i64 x0)/\w3=w'):=λw3 F3 h=>by
  refine(nM h.me).mono ?_;rintro e w'⟨rfl,⟨_,q,_⟩|⟨x,hx,hl,he⟩⟩
  .have hq:T.E x0=false:=q x0
   rw[hx2.1]at hq;cases hq
  .have e:some x=some x0:=by rw[<-nZ hx1 hx2,<-nZ (I:=T.E) hx hl]
   cases e
   exact⟨he,rfl⟩
 unfold PP.ptr at*;have B4:=Hd b4;generalize hw2:(w.alloc (.cells #[.int .u32 id] 34))=w2 at*;clear H H1 S ho hno hu b4 hlt hx hx2;go_enter func62,ntmps62
 go_wp2_with fail
 try rw[hw2]
 clear hw2;refine KT1.out.mono ?_;rintro e w3⟨rfl,F3,h3,g3,q3⟩;have lb:=KB.out w3 F3 _ h3;have HF:=Hd (KF.out w3 F3 h3);have HL:=Hd (Led.trans (B4.out.mono (λ_ q=>q.elim)) (λi q=>.inl q) (⟨F3,h3.more (by omega:m<=m+6),g3,q3⟩:Led (PI RR p {T with A:=P.miss T.A id} (m+6)) F w2 w3));clear h3 g3 q3 KT1 KB KF
 go_wp2_with fail
 refine HF.out.mono ?_;rintro e w4⟨rfl,rfl⟩;have hge:decide ((x0:Int)>=0)=true:=by simp
 go_wp2;go_returns;exact⟨rfl,HL.out⟩
theorem kw(H:PI RR p T m w F)(hm:m<70000){id:Nat}(h1:1<=id)(hu:id<4294967296){pg:Nat->Nat}{ev:Nat->Bool}(ho:ok m T.A pg ev)(hno:∀i,i<p.n->¬pg i=id)(hE:∀x,x<p.n->T.E x=false){v xi:Nat}{T1 T2 T3:PT τ}{er rx:Int}(hvn:v<p.n)
  (KV:Hid (∀w F,PI RR p {T with A:=P.miss T.A id} m w F->Calls prog 83 #[p.ptr,.int .u32 id] w λe w'=>e=.returned (.int .i64 v)/\Led (PI RR p T1 (m+2)) F w w'))
  (KC:Hid (∀w F,PI RR p T1 (m+2) w F->Calls prog 71 #[p.ptr,.int .i64 v] w λe w'=>e=.returned (.int .i64 er)/\Led (PI RR p T2 (m+3)) F w w'))(hxi:(T2.f v).id=xi)
  (KZ:(er=0/\rx=v/\Hid (∀w F,PI RR p T2 (m+3) w F->Calls prog 86 #[p.ptr,.int .i64 v] w λe w'=>e=.returned (.tuple #[])/\Led (PI RR p T3 (m+6)) F w w'))\/(¬er=0/\rx= -1/\∃T4,Hid (∀w F b1 b2,PI RR p T2 (m+3) w F->w.cell? ⟨b1,0,none⟩=some (.int .i64 v)->w.cell? ⟨b2,0,none⟩=some (.int .u32 xi)->b1<w.heap.size->b2<w.heap.size->¬F b1->¬F b2->Calls prog 69 #[p.ptr,.func (.func 84) #[] #[.pointer (some ⟨b1,0,none⟩),.pointer (some ⟨b2,0,none⟩)]] w λe w'=>e=.returned (.tuple #[])/\Led (PI RR p T4 (m+3)) F w w')/\Hid (∀w F b1,PI RR p T4 (m+3) w F->w.cell? ⟨b1,0,none⟩=some (.int .i64 v)->b1<w.heap.size->¬F b1->Calls prog 69 #[p.ptr,.func (.func 85) #[] #[.pointer (some ⟨b1,0,none⟩)]] w λe w'=>e=.returned (.tuple #[])/\Led (PI RR p T3 (m+6)) F w w'))):
  Calls prog 62 #[p.ptr,.int .u32 id] w λe w'=>e=.returned (.tuple #[.int .i64 rx,.int .i64 er])/\Led (PI RR p T3 (m+6)) F w w':=by
 obtain⟨b1,b3,b4⟩:=oT w (.int .u32 id) 34;have H1:=H.fr0 S b4;have hlt:=H.lt S;have hnF1:¬F w.heap.size:=λq=>by have:=hlt _ q;omega
 have KT1:=Hd (H1.tell1 S Ai (λFR hr hF=>S.miss hr ho (by omega) h1 hu hno b1 (by omega) (λq=>hnF1 (hF _ q))))
 have KF:Hid (∀w3 F3,PI RR p {T with A:=P.miss T.A id} m w3 F3->p.pb<w3.heap.size/\Calls prog 82 #[.pointer (some ⟨p.pb,4,none⟩)] w3 λe w'=>e=.returned (.int .i64 (-1))/\w3=w'):=λw3 F3 h=>⟨h.me.hd.lt,by
  refine(nM h.me).mono ?_;rintro e w'⟨rfl,⟨_,q,he⟩|⟨x,hx,hl,he⟩⟩
  .exact⟨he,rfl⟩
  .have q1:T.E x=true:=hl.1
   rw[hE x hx]at q1;cases q1⟩
 have hn:=H.me.hn
 have KM:Hid (∀w6 F6,PI RR p T2 (m+3) w6 F6->p.pb<w6.heap.size/\p.fb<w6.heap.size/\w6.cell? ⟨p.pb,2,none⟩=some (.slice (some ⟨p.fb,0,none⟩) p.n p.n)/\w6.cell? ⟨p.fb,v*4,none⟩=some (.int .u32 xi)/\∀i,F6 i->i<w6.heap.size):=λw6 F6 h=>⟨h.me.hd.lt,h.me.fr.lt,h.me.ce 2 (by omega),by
  rw[<-hxi];exact(h.me.cf hvn).1,h.lt S⟩
 have KN:Hid (∀T0 m w5 w6 F5,PI RR p T0 m w5 F5->Fr NoF w5 w6->PI RR p T0 m w6 F5):=λ_ _ w5 w6 F5 h g=>h.fr0 S g
 have KL:Hid (∀w4 F4,PI RR p T1 (m+2) w4 F4->F4 p.pb/\∀i,F4 i->i<w4.heap.size):=λw4 F4 h=>⟨h.own _ (.inl rfl),h.lt S⟩
 unfold PP.ptr at*;have B4:=Hd (b4.mono (G:=F) (λ_ q=>q.elim));generalize hw2:(w.alloc (.cells #[.int .u32 id] 34))=w2 at*;have HZ:=Hd KZ;clear H H1 S ho hno hu b4 hlt hxi hE KZ;go_enter func62,ntmps62
 go_wp2_with fail
 try rw[hw2]
 clear hw2;refine KT1.out.mono ?_;rintro e w3⟨rfl,F3,h3,g3,q3⟩;obtain⟨lb,HF⟩:=KF.out w3 F3 h3;have HF:=Hd HF;have y1:w3.cell? ⟨w.heap.size,0,none⟩=some (.int .u32 id):=by rw[g3.cell (p:=⟨w.heap.size,0,none⟩) (by show w.heap.size<_;omega) hnF1];exact b1
 have n3:¬F3 w.heap.size:=λq=>(q3 _ q).elim hnF1 (λq=>by omega)
 have HV:=Hd (KV.out w3 F3 h3);have y2:=g3.size;have G3:=Hd g3;have Q3:=Hd q3;clear h3 g3 q3 KT1 KF KV
 go_wp2_with fail
 refine HF.out.mono ?_;rintro e w4⟨rfl,rfl⟩
 go_wp2_with fail
 refine HV.out.mono ?_;rintro e w4⟨rfl,F4,h4,g4,q4⟩;obtain⟨a1,a2,a3⟩:=oT w4 (.int .i64 v) 3;obtain⟨hpb,l4⟩:=KL.out w4 F4 h4;have h5:=KN.out _ _ w4 _ F4 h4 a3;have y3:=g4.size;have n5:¬F4 w4.heap.size:=λq=>by have:=l4 _ q;omega
 have HC:=Hd (KC.out _ F4 h5);have lb5:p.pb<(w4.alloc (.cells #[.int .i64 v] 3)).heap.size:=by have:=l4 _ hpb;omega
 have G4:=Hd g4;have Q4:=Hd q4;have A3:=Hd (a3.mono (G:=F4) (λ_ q=>q.elim));clear h4 g4 q4 h5 HF HV y1 a3 l4 hpb KL
 go_wp2_with fail
 refine HC.out.mono ?_;rintro e w6⟨rfl,F6,h6,g6,q6⟩;obtain⟨m1,m2,m3,m4,m5⟩:=KM.out w6 F6 h6;have c1:w6.cell? ⟨w4.heap.size,0,none⟩=some (.int .i64 v):=by rw[g6.cell (p:=⟨w4.heap.size,0,none⟩) (by show w4.heap.size<_;omega) n5];exact a1
 have n6:¬F6 w4.heap.size:=λq=>(q6 _ q).elim n5 (λq=>by omega)
 have n7:¬F6 w6.heap.size:=λq=>by have:=m5 _ q;omega
 have y6:=g6.size;have H6:=Hd h6;have L6:Hid (∀w',Led (PI RR p T3 (m+6)) F6 w6 w'->Led (PI RR p T3 (m+6)) F w w'):=Hd λw' h=>Led.trans B4.out (λi q=>.inl q) (Led.trans G3.out Q3.out (Led.trans G4.out Q4.out (Led.trans A3.out (λi q=>.inl q) (Led.trans g6 q6 h))))
 clear h6 g6 q6 HC KC KM m5;rcases HZ.out with⟨rfl,rfl,hK⟩|⟨he0,rfl,T4,hA,hS⟩
 .clear HZ KN n7
  go_wp2_with fail
  refine(hK.out w6 F6 H6.out).mono ?_;rintro e w7⟨rfl,h7⟩;have c2:w7.cell? ⟨w4.heap.size,0,none⟩=some (.int .i64 v):=by obtain⟨_,_,g7,_⟩:=h7;rw[g7.cell (p:=⟨w4.heap.size,0,none⟩) (by show w4.heap.size<_;omega) n6];exact c1
  have H7:=Hd h7;clear h7 c1 m3 m4;go_wp2;go_returns;exact⟨rfl,L6.out _ H7.out⟩
 .clear HZ
  have hne:(er==0)=false:=by simp<;>exact he0
  go_wp2_with fail
  have fN:Fr NoF w6 (w6.alloc (.cells #[.int .u32 0] 34)):=(Fr.refl NoF w6).alloc _;have d2:(w6.alloc (.cells #[.int .u32 0] 34)).cell? ⟨p.pb,2,none⟩=some (.slice (some ⟨p.fb,0,none⟩) p.n p.n):=by rw[fN.cell (p:=⟨p.pb,2,none⟩) m1 (λq=>q)];exact m3
  have d0:(w6.alloc (.cells #[.int .u32 0] 34)).cell? ⟨p.fb,v*4,none⟩=some (.int .u32 xi):=by rw[fN.cell (p:=⟨p.fb,v*4,none⟩) m2 (λq=>q)];exact m4
  have d1:(w6.alloc (.cells #[.int .u32 0] 34)).cell? ⟨w4.heap.size,0,none⟩=some (.int .i64 v):=by rw[fN.cell (p:=⟨w4.heap.size,0,none⟩) (by show w4.heap.size<_;omega) (λq=>q)];exact c1
  have dl:=ar w6 (.cells #[.int .u32 0] 34);clear fN
  go_region
  all_goals
   go_wp2_with fail
   clear d0 d1 d2 dl;have fA:Fr NoF w6 (w6.alloc (.cells #[.int .u32 xi] 34)).drew:=((Fr.refl NoF w6).alloc _).drew;have x1:(w6.alloc (.cells #[.int .u32 xi] 34)).drew.cell? ⟨w4.heap.size,0,none⟩=some (.int .i64 v):=by rw[fA.cell (p:=⟨w4.heap.size,0,none⟩) (by show w4.heap.size<_;omega) (λq=>q)];exact c1
   have x2:(w6.alloc (.cells #[.int .u32 xi] 34)).drew.cell? ⟨w6.heap.size,0,none⟩=some (.int .u32 xi):=((vZ w6 (.int .u32 xi) 34).drew).cell (i:=0) (by omega);have x3:(w6.alloc (.cells #[.int .u32 xi] 34)).drew.heap.size=w6.heap.size+1:=ar w6 _;have H7:=KN.out _ _ w6 _ F6 H6.out fA;generalize(w6.alloc (.cells #[.int .u32 xi] 34)).drew=wA at fA x1 x2 x3 H7⊢;have HT:=Hd (hA.out wA F6 _ _ H7 x1 x2 (by omega) (by omega) n6 n7);have FA:=Hd (fA.mono (G:=F6) (λ_ q=>q.elim));clear H7 fA x2 hA;refine HT.out.mono ?_;rintro e w8⟨rfl,F8,h8,g8,q8⟩;have z1:w8.cell? ⟨w4.heap.size,0,none⟩=some (.int .i64 v):=by rw[g8.cell (p:=⟨w4.heap.size,0,none⟩) (by show w4.heap.size<_;omega) n6];exact x1
   have z2:=g8.size;have HT2:=Hd (hS.out w8 F8 w4.heap.size h8 z1 (by omega) (λq=>(q8 _ q).elim n6 (λq=>by omega)));have G8:=Hd g8;have Q8:=Hd q8;clear h8 g8 q8 hS HT z1 x1 c1 m3 m4
   go_wp2_with fail
   refine HT2.out.mono ?_;rintro e w9⟨rfl,h9⟩;have H9:=Hd h9;clear h9;go_wp2;go_returns;exact⟨rfl,L6.out _ (Led.trans FA.out (λi q=>.inl q) (Led.trans G8.out Q8.out H9.out))⟩
theorem sd(H:PI RR p T m w F)(hm:m<70000){id x0:Nat}(h1:1<=id)(hu:id<4294967296){pg:Nat->Nat}{ev:Nat->Bool}(ho:ok m T.A pg ev)(hno:∀i,i<p.n->¬pg i=id)(hE:∀x,x<p.n->T.E x=false)(hg:∀x,T.I x=true↔bk p.n pg ev x)(hpg:∀x,x<p.n->pg x=(T.f x).id)(hx:fstB p.n T.I=some x0)(hd:(T.f (VX P p.n T id).1).dirty=false):Calls prog 62 #[p.ptr,.int .u32 id] w λe w'=>e=.returned (.tuple #[.int .i64 (VX P p.n T id).1,.int .i64 0])/\Led (PI RR p (T3X P p.n T id) (m+6)) F w w':=by
 have okM:=S.okMiss ho (by omega) h1 hno;have hvn:=(eY S (P:=P) (A:=P.miss T.A id) (id:=id) hg hx).1;refine kw S H hm h1 hu ho hno hE (T1:=T1X P p.n T id) (T2:=T1X P p.n T id) hvn (λw F h=>dY S (h.more (Nat.le_succ m)) (by omega) h1 hu okM hno hg hx) (λw F h=>(jK S h hvn hd).mono λe w1 ⟨he,hl⟩=>⟨he,hl.mono λF1 h1=>h1.more (by omega)⟩) rfl (.inl ⟨rfl,rfl,λw F h=>?_⟩);exact(mF S h (by omega) hvn (hE _ hvn)).mono λe w' ⟨he,hl⟩=>⟨he,hl.mono λF1 h1=>h1.more (by omega)⟩
theorem pw(H:PI RR p T m w F)(hm:m<70000){id x0:Nat}(h1:1<=id)(hu:id<4294967296){pg:Nat->Nat}{ev:Nat->Bool}(ho:ok m T.A pg ev)(hno:∀i,i<p.n->¬pg i=id)(hE:∀x,x<p.n->T.E x=false)(hg:∀x,T.I x=true↔bk p.n pg ev x)(hpg:∀x,x<p.n->pg x=(T.f x).id)(hx:fstB p.n T.I=some x0)(hd:(T.f (VX P p.n T id).1).dirty=true)(he0:(D2X P p.n T id).1=0):Calls prog 62 #[p.ptr,.int .u32 id] w λe w'=>e=.returned (.tuple #[.int .i64 (VX P p.n T id).1,.int .i64 0])/\Led (PI RR p {T3X P p.n T id with D:=(D2X P p.n T id).2} (m+6)) F w w':=by
 have okM:=S.okMiss ho (by omega) h1 hno;have hvn:=(eY S (P:=P) (A:=P.miss T.A id) (id:=id) hg hx).1;refine kw S H hm h1 hu ho hno hE (T1:=T1X P p.n T id) hvn (λw F h=>dY S (h.more (Nat.le_succ m)) (by omega) h1 hu okM hno hg hx) (λw F h=>jE S h (by omega) hvn hd he0) rfl (.inl ⟨rfl,rfl,λw F h=>?_⟩);have:=mF S h (by omega) hvn (hE _ hvn)
 dsimp only at this
 rw[iy,upd_same]at this;exact this.mono λe w' ⟨he,hl⟩=>⟨he,hl.mono λF1 h1=>h1.more (by omega)⟩
theorem tm(H:PI RR p T m w F)(hm:m<70000){id x0:Nat}(h1:1<=id)(hu:id<4294967296){pg:Nat->Nat}{ev:Nat->Bool}(ho:ok m T.A pg ev)(hno:∀i,i<p.n->¬pg i=id)(hE:∀x,x<p.n->T.E x=false)(hg:∀x,T.I x=true↔bk p.n pg ev x)(hpg:∀x,x<p.n->pg x=(T.f x).id)(hinj:∀i j,i<p.n->j<p.n->¬pg i=0->pg i=pg j->i=j)(hx:fstB p.n T.I=some x0)(hd:(T.f (VX P p.n T id).1).dirty=true)(he0:¬(D2X P p.n T id).1=0):Calls prog 62 #[p.ptr,.int .u32 id] w λe w'=>e=.returned (.tuple #[.int .i64 (-1),.int .i64 (D2X P p.n T id).1])/\
  Led (PI RR p {T1X P p.n T id with A:=P.set (P.access (VX P p.n T id).2.1 (VX P p.n T id).1 (T.f (VX P p.n T id).1).id) (VX P p.n T id).1 true,D:=(D2X P p.n T id).2} (m+6)) F w w':=by
 have okM:=S.okMiss ho (by omega) h1 hno;have hgo:bk p.n pg ev (VX P p.n T id).1:=eY S (P:=P) (A:=P.miss T.A id) (id:=id) hg hx;have okV:ok (m+1+2) (VX P p.n T id).2.1 (upd pg (VX P p.n T id).1 0) (upd ev (VX P p.n T id).1 false):=Bt S (by omega) h1 okM hno hg hx;have hvn:=hgo.1;have hid0:¬(T.f (VX P p.n T id).1).id=0:=by rw[<-hpg _ hvn];exact hgo.2.1
 have hvid:∀i,i<p.n->¬upd pg (VX P p.n T id).1 0 i=(T.f (VX P p.n T id).1).id:=λi hi e=>by
  by_cases q:i=(VX P p.n T id).1
  .rw[q,upd_same]at e;exact hid0 e.symm
  .rw[aa _ _ q]at e
   exact q (hinj i _ hi hvn (λz=>hid0 (by rw[<-e];exact z)) (by rw[hpg _ hvn];exact e))
 have hvu:=(H.me.bd.2 (VX P p.n T id).1).1;have okA:=S.okNew okV (by omega) (by omega) hvu hvn (upd_same _ _ _) hvid
 refine kw S H hm h1 hu ho hno hE (T1:=T1X P p.n T id) hvn (λw F h=>dY S (h.more (Nat.le_succ m)) (by omega) h1 hu okM hno hg hx) (λw F h=>i8 S h (by omega) hvn hd he0) rfl (.inr ⟨λe=>he0 (by omega),rfl,_,λw6 F6 b1 b2 h q1 q2 q3 q4 q5 q6=>h.tell2 S Fk (λFR hr hF=>S.acc hr okV (by omega) (by omega) hvu hvn (.inr ⟨upd_same _ _ _,hvid⟩) q1 q2 q3 q4 (λq=>q5 (hF _ q)) (λq=>q6 (hF _ q)) (.inl rfl)),
  λw6 F6 b1 h q1 q3 q5=>(h.tell1 S Fg (λFR hr hF=>S.setT hr okA (by omega) hvn (by rw[upd_same];exact hid0) q1 q3 (λq=>q5 (hF _ q)) (.inl rfl))).mono λe w' ⟨he,hl⟩=>⟨he,hl.mono λF1 h1=>h1.more (by omega)⟩⟩)
end
end
end Go.Proofs.YtoenclhimbpfeaaGreatDoor
