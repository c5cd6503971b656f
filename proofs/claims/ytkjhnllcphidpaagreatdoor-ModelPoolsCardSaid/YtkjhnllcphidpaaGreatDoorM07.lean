/- Part 7. -/
import Derived.Test.YtkjhnllcphidpaaGreatDoorM05
import Derived.Test.YtkjhnllcphidpaaGreatDoorM06
import Derived.Deep.RegionLaw
import Derived.Deep.DeepCutAuto
namespace Go.Proofs.YtkjhnllcphidpaaGreatDoor
set_option linter.all false
set_option maxHeartbeats 16000000
set_option maxRecDepth 100000
section
open Go.Maps Go.Proofs.Tryz Go.RowKit
def wb(t:Th):Prop:=i64 t.x/\i64 t.a/\i64 t.b
def thF(a:Nat->Th)(i:Nat):Value:=if i%3=0 then .int .i64 (a (i/3)).x else if i%3=1 then .int .i64 (a (i/3)).a else .int .i64 (a (i/3)).b
theorem qq(a:Nat->Th)(k:Nat):thF a (k*3)=.int .i64 (a k).x:=by
 unfold thF;rw[if_pos (by omega),show k*3/3=k from by omega]
theorem C8(a:Nat->Th)(k:Nat):thF a (k*3+1)=.int .i64 (a k).a:=by
 unfold thF;rw[if_neg (by omega),if_pos (by omega),show(k*3+1)/3=k from by omega]
theorem C2(a:Nat->Th)(k:Nat):thF a (k*3+2)=.int .i64 (a k).b:=by
 unfold thF;rw[if_neg (by omega),if_neg (by omega),show(k*3+2)/3=k from by omega]
theorem j8(a:Nat->Th)(k:Nat)(t:Th):upd (upd (upd (thF a) (k*3) (.int .i64 t.x)) (k*3+1) (.int .i64 t.a)) (k*3+2) (.int .i64 t.b)=thF (upd a k t):=by
 funext j
 by_cases e2:j=k*3+2
 .subst e2;rw[upd_same,C2,upd_same]
 .rw[ab _ _ e2]
  by_cases e1:j=k*3+1
  .subst e1;rw[upd_same,C8,upd_same]
  .rw[ab _ _ e1]
   by_cases e0:j=k*3
   .subst e0;rw[upd_same,qq,upd_same]
   .rw[ab _ _ e0]
    unfold thF;rw[ab _ _ (by omega:¬j/3=k)]
theorem Cy{α:Type}(a:Nat->α)(i j:Nat):upd (upd a i (a j)) j (a i)=swp a i j:=by
 funext k
 unfold upd swp;by_cases e1:k=j
 .subst e1
  by_cases e2:k=i
  .rw[if_pos rfl,if_pos e2,e2]
  .rw[if_pos rfl,if_neg e2,if_pos rfl]
 .rw[if_neg e1]
  by_cases e2:k=i
  .rw[if_pos e2,if_pos e2]
  .rw[if_neg e2,if_neg e2,if_neg e1]
theorem SlF.snoc3{w:World}{e:TypeId}{v:Value}{c:Nat->Value}{k:Nat}{u1 u2 u3:Value}(h:w.ownsRow 0 e 3 v (k+1) ((List.range (k*3)).map c++[u1,u2,u3])):SlF w e 3 v (k+1) (upd (upd (upd c (k*3) u1) (k*3+1) u2) (k*3+2) u3):=by
 unfold SlF;rw[show(k+1)*3=k*3+2+1 from by omega,<-co,<-co,<-co,List.append_assoc,List.append_assoc];exact h
theorem MIq:MI prog 215 3 3 .i64 .i64:=⟨underlying215,underlying3,underlying3,λw=>Tryz.zeroValue3 w⟩
def MQ(w:World)(mo:Option Nat)(n:Nat)(g:Int->Option Int):Prop:=match mo with
 |none=>n=0/\∀x,g x=none
 |some mb=>MpN prog 3 3 .i64 .i64 w mb n g
def qH(lv:Value)(mo:Option Nat)(i:Nat):Value:=if i=0 then lv else .map mo
structure QC(w:World)(qb:Nat)(a:Nat->Th)(n:Nat)(lv:Value)(mo:Option Nat)(g:Int->Option Int):Prop where
 hd:Blk w qb 2 (qH lv mo)
 li:SlF w 307 3 lv n (thF a)
 mp:MQ w mo n g
 pl:∀x k,g x=some k↔∃j:Nat,k=(j:Int)/\j<n/\(a j).x=x
 ok:∀k,k<n->wb (a k)
 n1:∀b,lv.ownBlock=some b->¬b=qb/\¬mo=some b
 n2:∀b,mo=some b->¬b=qb
 sm:n<1000000
def FQ(qb:Nat)(lv:Value)(mo:Option Nat):Nat->Prop:=λi=>i=qb\/lv.ownBlock=some i\/mo=some i
def HRq(qb:Nat):World->(Nat->Th)->Nat->(Nat->Prop)->Prop:=λw a n F=>∃lv mo g,QC w qb a n lv mo g/\∀i,F i↔FQ qb lv mo i
section
variable{w w':World}{qb n:Nat}{a:Nat->Th}{lv:Value}{mo:Option Nat}{g:Int->Option Int}{F:Nat->Prop}
theorem MQ.fr(h:MQ w mo n g){G:Nat->Prop}(f:Fr G w w')(hG:∀b,mo=some b->¬G b):MQ w' mo n g:=by
 cases mo with
 |none=>exact h
 |some mb=>exact MpN.fr h f (hG mb rfl)
theorem MQ.lt(h:MQ w mo n g):∀b,mo=some b->b<w.heap.size:=by
 rintro b rfl;exact MpN.lt h
theorem QC.fr(h:QC w qb a n lv mo g){G:Nat->Prop}(f:Fr G w w')(hG:∀i,FQ qb lv mo i->¬G i):QC w' qb a n lv mo g:=
 ⟨h.hd.fr f (hG _ (.inl rfl)),h.li.fr f (λb q=>hG b (.inr (.inl q))),h.mp.fr f (λb q=>hG b (.inr (.inr q))),h.pl,h.ok,h.n1,h.n2,h.sm⟩
theorem QC.fr0(h:QC w qb a n lv mo g)(f:Fr NoF w w'):QC w' qb a n lv mo g:=h.fr f (λ_ _ q=>q)
theorem QC.lt(h:QC w qb a n lv mo g):∀i,FQ qb lv mo i->i<w.heap.size:=by
 rintro i(rfl|q|q)
 .exact h.hd.lt
 .exact h.li.lt i q
 .exact h.mp.lt i q
theorem QC.inj(h:QC w qb a n lv mo g):gL (λt:Th=>t.x) a n:=by
 intro k m hk hm e;have h1:=(h.pl (a k).x (k:Int)).2 ⟨k,rfl,hk,rfl⟩;have h2:=(h.pl (a k).x (m:Int)).2 ⟨m,rfl,hm,e.symm⟩;rw[h1]at h2;simp at h2;omega
theorem QC.c0(h:QC w qb a n lv mo g):w.cell? ⟨qb,0,none⟩=some lv:=h.hd.cell (i:=0) (by omega)
theorem QC.c1(h:QC w qb a n lv mo g):w.cell? ⟨qb,1,none⟩=some (.map mo):=h.hd.cell (i:=1) (by omega)
theorem QC.el(h:QC w qb a n lv mo g){i:Nat}(hi:i<n):∃gb cap,lv=.slice (some ⟨gb,0,none⟩) n cap/\n<=cap/\cap<=9223372036854775807/\gb<w.heap.size/\(∀j,w.frozen? ⟨gb,j,none⟩=false)/\w.cell? ⟨gb,i*3,none⟩=some (.int .i64 (a i).x)/\w.cell? ⟨gb,i*3+1,none⟩=some (.int .i64 (a i).a)/\w.cell? ⟨gb,i*3+2,none⟩=some (.int .i64 (a i).b):=by
 obtain⟨gb,cap,e,h1,h2,h3,h4,h5⟩:=h.li.at (by omega);exact⟨gb,cap,e,h1,by unfold maxLen at h2;omega,h3,h4,by rw[h5 _ (by omega),qq],by rw[h5 _ (by omega),C8],by rw[h5 _ (by omega),C2]⟩
theorem q_len(h:QC w qb a n lv mo g):Calls prog 218 #[.pointer (some ⟨qb,0,none⟩)] w λe w'=>e=.returned (.int .i64 (n:Nat))/\w=w':=by
 have c0:=h.c0;have lb:=h.hd.lt;obtain⟨va,vc,rfl,_,_⟩:=h.li.shape;clear h;go_enter func218,ntmps218;go_wp2;go_returns;exact⟨rfl,rfl⟩
theorem DJ(h:QC w qb a n lv mo g){i j:Nat}(hi:i<n)(hj:j<n):Calls prog 290 #[.pointer (some ⟨qb,0,none⟩),.int .i64 i,.int .i64 j] w λe w'=>e=.returned (.bool (ltT (a i) (a j)))/\Fr NoF w w':=by
 have hn:=h.sm;have HC:Hid (∀W,Fr NoF w W->W.cell? ⟨qb,0,none⟩=some lv):=λW f=>(h.fr0 f).c0
 obtain⟨gb,cap,rfl,h1,h2,h3,h4,i0,i1,i2⟩:=h.el hi;obtain⟨gb',cap',e,_,_,_,_,j0,j1,j2⟩:=h.el hj;simp only[Value.slice.injEq,Option.some.injEq,Addr.mk.injEq]at e;obtain⟨⟨rfl,_⟩,_,rfl⟩:=e
 have HCL:Hid (∀W,Fr NoF w W->W.cell? ⟨gb,i*3,none⟩=some (.int .i64 (a i).x)/\W.cell? ⟨gb,i*3+1,none⟩=some (.int .i64 (a i).a)/\W.cell? ⟨gb,i*3+2,none⟩=some (.int .i64 (a i).b)/\W.cell? ⟨gb,j*3,none⟩=some (.int .i64 (a j).x)/\W.cell? ⟨gb,j*3+1,none⟩=some (.int .i64 (a j).a)/\W.cell? ⟨gb,j*3+2,none⟩=some (.int .i64 (a j).b)/\W.cell? ⟨qb,0,none⟩=some (.slice (some ⟨gb,0,none⟩) n cap)):=by
  intro W f;refine⟨?_,?_,?_,?_,?_,?_,HC.out W f⟩
  .rw[f.cell (p:=⟨gb,_,none⟩) h3 id];exact i0
  .rw[f.cell (p:=⟨gb,_,none⟩) h3 id];exact i1
  .rw[f.cell (p:=⟨gb,_,none⟩) h3 id];exact i2
  .rw[f.cell (p:=⟨gb,_,none⟩) h3 id];exact j0
  .rw[f.cell (p:=⟨gb,_,none⟩) h3 id];exact j1
  .rw[f.cell (p:=⟨gb,_,none⟩) h3 id];exact j2
 have HCM:=Hd (λW=>my (a i) (a j) W);unfold thV at HCM;have HL:Hid (ltT (a i) (a j)=decide (cmpT (a i) (a j)<0)):=rfl;rw[HL.out];generalize cmpT (a i) (a j)=cv at*;generalize(a i).x=ix at*;generalize(a i).a=ia at*;generalize(a i).b=ib at*;generalize(a j).x=jx at*;generalize(a j).a=ja at*;generalize(a j).b=jb at*;have lb:=h.hd.lt;clear h h4 i0 i1 i2 j0 j1 j2 HL;go_enter func290,ntmps290
 go_wp2_with fail
 go_region_held3(λw'=>w'.cell? ⟨gb,i*3,none⟩=some (.int .i64 ix)/\w'.cell? ⟨gb,i*3+1,none⟩=some (.int .i64 ia)/\w'.cell? ⟨gb,i*3+2,none⟩=some (.int .i64 ib)/\w'.cell? ⟨gb,j*3,none⟩=some (.int .i64 jx)/\w'.cell? ⟨gb,j*3+1,none⟩=some (.int .i64 ja)/\w'.cell? ⟨gb,j*3+2,none⟩=some (.int .i64 jb)/\w'.cell? ⟨qb,0,none⟩=some (.slice (some ⟨gb,0,none⟩) n cap))
  (exact HCL.out _ (by repeat(first|exact FH.out|exact Fr.refl NoF _|apply Fr.drew|apply Fr.drewN)))
  (first
   |(go_at_call 294;(with_reducible refine(HCM.out _).mono ?_);rintro e wh⟨rfl,fh⟩;have FH:=Hd (((Fr.refl NoF w).drew).trans fh (λ_ q=>q.elim));clear fh))
 all_goals
  go_wp2;go_returns;exact⟨rfl,by repeat(first|exact FH.out|apply Fr.drew|apply Fr.drewN)⟩
theorem QC.swap{gb cap:Nat}(h:QC w qb a n (.slice (some ⟨gb,0,none⟩) n cap) mo g){i j:Nat}(hi:i<n)(hj:j<n){w1:World}
  (hw:w1=(((((w.setCell ⟨gb,i*3,none⟩ (.int .i64 (a j).x)).setCell ⟨gb,i*3+1,none⟩ (.int .i64 (a j).a)).setCell ⟨gb,i*3+2,none⟩ (.int .i64 (a j).b)).setCell ⟨gb,j*3,none⟩ (.int .i64 (a i).x)).setCell ⟨gb,j*3+1,none⟩ (.int .i64 (a i).a)).setCell ⟨gb,j*3+2,none⟩ (.int .i64 (a i).b)):
  SlF w1 307 3 (.slice (some ⟨gb,0,none⟩) n cap) n (thF (swp a i j))/\Fr (λk=>k=gb) w w1/\∃mb,mo=some mb/\MpN prog 3 3 .i64 .i64 w1 mb n g/\w1.cell? ⟨qb,0,none⟩=some (.slice (some ⟨gb,0,none⟩) n cap)/\w1.cell? ⟨qb,1,none⟩=some (.map (some mb))/\i64 (a i).x/\i64 (a j).x/\
   Hid (∀w2,MpN prog 3 3 .i64 .i64 w2 mb n (bY (bY g (a j).x (some (i:Int))) (a i).x (some (j:Int)))->Fr (λk=>k=mb) w1 w2->HRq qb w2 (swp a i j) n (FQ qb (.slice (some ⟨gb,0,none⟩) n cap) mo)/\Fr (FQ qb (.slice (some ⟨gb,0,none⟩) n cap) mo) w w2):=by
 have fr:Fr (λk=>k=gb) w w1:=by
  rw[hw];exact((((((Fr.refl (λk=>k=gb) w).setCell (p:=⟨gb,i*3,none⟩) (.inl rfl) _).setCell (p:=⟨gb,i*3+1,none⟩) (.inl rfl) _).setCell (p:=⟨gb,i*3+2,none⟩) (.inl rfl) _).setCell (p:=⟨gb,j*3,none⟩) (.inl rfl) _).setCell (p:=⟨gb,j*3+1,none⟩) (.inl rfl) _).setCell (p:=⟨gb,j*3+2,none⟩) (.inl rfl) _
 have s1:=((((((h.li.set (i:=i*3) (by omega) (.int .i64 (a j).x)).set (i:=i*3+1) (by omega) (.int .i64 (a j).a)).set (i:=i*3+2) (by omega) (.int .i64 (a j).b)).set (i:=j*3) (by omega) (.int .i64 (a i).x)).set (i:=j*3+1) (by omega) (.int .i64 (a i).a)).set (i:=j*3+2) (by omega) (.int .i64 (a i).b));rw[j8 a i (a j),j8 (upd a i (a j)) j (a i),Cy,<-hw]at s1;clear hw;obtain⟨k1,k2⟩:=h.n1 gb rfl
 cases mo with
 |none=>have:=h.mp.1;omega
 |some mb=>
  have k3:=h.n2 mb rfl;have hne:¬mb=gb:=λq=>k2 (by rw[q])
  refine⟨s1,fr,mb,rfl,MpN.fr h.mp fr hne,?_,?_,(h.ok i hi).1,(h.ok j hj).1,?_⟩
  .rw[fr.cell (p:=⟨qb,0,none⟩) h.hd.lt (λq=>k1 q.symm)];exact h.c0
  .rw[fr.cell (p:=⟨qb,1,none⟩) h.hd.lt (λq=>k1 q.symm)];exact h.c1
  .intro w2 hm f2
   refine⟨⟨_,some mb,_,⟨(h.hd.fr fr (λq=>k1 q.symm)).fr f2 (λq=>k3 q.symm),s1.fr f2 (λb q e=>by rw[e]at q;exact(h.n1 mb q).2 rfl),hm,λx k=>?_,λk hk=>?_,h.n1,h.n2,h.sm⟩,λi=>Iff.rfl⟩,(fr.mono (λi q=>.inr (.inl (by rw[q];rfl)))).trans f2 (λi q=>.inl (.inr (.inr (by rw[q]))))⟩
   .have hij:=h.inj
    by_cases e1:x=(a i).x
    .subst e1
     rw[aU];constructor
     .rintro⟨rfl⟩
      refine⟨j,rfl,hj,?_⟩;unfold swp;split
      .rename_i q;rw[q]
      .rw[if_pos rfl]
     .rintro⟨j',rfl,hj',q⟩
      have:j'=j:=by
       have hs:=eN hi hj hij;refine hs j' j hj' hj ?_
       show(swp a i j j').x=(swp a i j j).x
       rw[q];unfold swp;split
       .rename_i q;rw[q]
       .rw[if_pos rfl]
      rw[this]
    .rw[aB _ _ e1]
     by_cases e2:x=(a j).x
     .subst e2
      rw[aU];constructor
      .rintro⟨rfl⟩
       exact⟨i,rfl,hi,by unfold swp;rw[if_pos rfl]⟩
      .rintro⟨j',rfl,hj',q⟩
       have:j'=i:=by
        have hs:=eN hi hj hij;refine hs j' i hj' hi ?_
        show(swp a i j j').x=(swp a i j i).x
        rw[q];unfold swp;rw[if_pos rfl]
       rw[this]
     .rw[aB _ _ e2,h.pl x k]
      constructor
      .rintro⟨j',rfl,hj',q⟩
       refine⟨j',rfl,hj',?_⟩;unfold swp;rw[if_neg (λe=>e1 (by rw[<-q,e])),if_neg (λe=>e2 (by rw[<-q,e]))];exact q
      .rintro⟨j',rfl,hj',q⟩
       refine⟨j',rfl,hj',?_⟩;unfold swp at q
       split at q
       .exact(e2 q.symm).elim
       .split at q
        .exact(e1 q.symm).elim
        .exact q
   .unfold swp
    split
    .exact h.ok j hj
    .split
     .exact h.ok i hi
     .exact h.ok k hk
end
section
variable{w w':World}{qb n:Nat}{a:Nat->Th}{lv:Value}{mo:Option Nat}{g:Int->Option Int}{F:Nat->Prop}
theorem DO(h:QC w qb a n lv mo g){i j:Nat}(hi:i<n)(hj:j<n):Calls prog 293 #[.pointer (some ⟨qb,0,none⟩),.int .i64 i,.int .i64 j] w λe w'=>e=.returned (.tuple #[])/\HRq qb w' (swp a i j) n (FQ qb lv mo)/\Fr (FQ qb lv mo) w w':=by
 have hn:=h.sm;have c0:=h.c0;have lb:=h.hd.lt;obtain⟨gb,cap,rfl,h1,h2,h3,h4,i0,i1,i2⟩:=h.el hi;obtain⟨gb',cap',e,_,_,_,_,j0,j1,j2⟩:=h.el hj;simp only[Value.slice.injEq,Option.some.injEq,Addr.mk.injEq]at e;obtain⟨⟨rfl,_⟩,_,rfl⟩:=e;obtain⟨k1,k2⟩:=h.n1 gb rfl;obtain⟨w1,hw1⟩:∃w1,w1=(((((w.setCell ⟨gb,i*3,none⟩ (.int .i64 (a j).x)).setCell ⟨gb,i*3+1,none⟩ (.int .i64 (a j).a)).setCell ⟨gb,i*3+2,none⟩ (.int .i64 (a j).b)).setCell ⟨gb,j*3,none⟩ (.int .i64 (a i).x)).setCell ⟨gb,j*3+1,none⟩ (.int .i64 (a i).a)).setCell ⟨gb,j*3+2,none⟩ (.int .i64 (a i).b):=⟨_,rfl⟩;obtain⟨s1,fr,mb,hmo,hm1,c0',c1',okx,oky,K⟩:=h.swap hi hj hw1;have k3:=h.n2 mb hmo;have k2':¬mb=gb:=λq=>k2 (by rw[hmo,q])
 have HK:=K;have lw1:=fr.size
 have HS:Hid (∀W,Fr (λk=>k=mb) w1 W->W.cell? ⟨qb,0,none⟩=some (.slice (some ⟨gb,0,none⟩) n cap)/\W.cell? ⟨qb,1,none⟩=some (.map (some mb))/\W.cell? ⟨gb,i*3,none⟩=some (.int .i64 (a j).x)/\W.cell? ⟨gb,j*3,none⟩=some (.int .i64 (a i).x)):=by
  intro W f;obtain⟨g2,cap2,e2,_,_,l2,_,ce⟩:=s1.at (by omega);simp only[Value.slice.injEq,Option.some.injEq,Addr.mk.injEq]at e2;obtain⟨⟨rfl,_⟩,_,rfl⟩:=e2;refine⟨?_,?_,?_,?_⟩
  .rw[f.cell (p:=⟨qb,0,none⟩) (by show qb<_;omega) (λq=>k3 q.symm)];exact c0'
  .rw[f.cell (p:=⟨qb,1,none⟩) (by show qb<_;omega) (λq=>k3 q.symm)];exact c1'
  .rw[f.cell (p:=⟨gb,i*3,none⟩) l2 (λq=>k2' q.symm),ce _ (by omega),qq]
   congr 2;unfold swp;rw[if_pos rfl]
  .rw[f.cell (p:=⟨gb,j*3,none⟩) l2 (λq=>k2' q.symm),ce _ (by omega),qq]
   congr 2;unfold swp;split
   .rename_i q;rw[q]
   .rw[if_pos rfl]
 have wfi:(Lit.int .i64 (i:Int)).wf=true:=WalkArith.wf_i64 ⟨by omega,by omega⟩;have wfj:(Lit.int .i64 (j:Int)).wf=true:=WalkArith.wf_i64 ⟨by omega,by omega⟩
 have HE:Hid (∀W,Fr NoF w1 W->∃(v0:Value) (st:Nat) (w2 w3:World) (v1:Value) (st':Nat) (w4 w5:World),(Instr.mapEntry 215 (.map (some mb)) (.int .i64 (a j).x)).run prog W=.ok (.tuple #[v0,.int .i64 (st:Int)]) w2/\(Instr.entryStore 215 (.map (some mb)) (.int .i64 (st:Int)) (.int .i64 (i:Int))).run prog w2=.ok () w3/\
   (Instr.mapEntry 215 (.map (some mb)) (.int .i64 (a i).x)).run prog w3=.ok (.tuple #[v1,.int .i64 (st':Int)]) w4/\(Instr.entryStore 215 (.map (some mb)) (.int .i64 (st':Int)) (.int .i64 (j:Int))).run prog w4=.ok () w5/\
   Hid (Fr (λk=>k=mb) w1 w2/\Fr (λk=>k=mb) w1 w3/\Fr (λk=>k=mb) w1 w4/\Fr (λk=>k=mb) w1 w5/\MpN prog 3 3 .i64 .i64 w5 mb n (bY (bY g (a j).x (some (i:Int))) (a i).x (some (j:Int))))):=by
  intro W f;have fm:Fr (λk=>k=mb) w1 W:=f.mono (λ_ q=>q.elim);obtain⟨v0,st,w2,w3,e1,e2,f2,m3,f3⟩:=(hm1.fr f (λq=>q)).entry MIq hn (x:=(a j).x) (y:=(i:Int)) oky wfi;have hg1:(g (a j).x).isSome=true:=by rw[(h.pl (a j).x (j:Int)).2 ⟨j,rfl,hj,rfl⟩];rfl
  rw[if_pos hg1]at m3;obtain⟨v1,st',w4,w5,e3,e4,f4,m5,f5⟩:=m3.entry MIq hn (x:=(a i).x) (y:=(j:Int)) okx wfj
  have hg2:(bY g (a j).x (some (i:Int)) (a i).x).isSome=true:=by
   by_cases q:(a i).x=(a j).x
   .rw[q,aU];rfl
   .rw[aB _ _ q,(h.pl (a i).x (i:Int)).2 ⟨i,rfl,hi,rfl⟩];rfl
  rw[if_pos hg2]at m5;have g3:=fm.trans f3 (λi q=>.inl q);exact⟨v0,st,w2,w3,v1,st',w4,w5,e1,e2,e3,e4,fm.trans f2 (λi q=>.inl q),g3,g3.trans f4 (λi q=>.inl q),g3.trans f5 (λi q=>.inl q),m5⟩
 have HW1:=Hd hw1;clear s1 fr hm1 c0' c1' okx oky K wfi wfj h k2 hw1;by_cases hij:i=j
 .subst hij
  clear j0 j1 j2;generalize(a i).x=ix at*;generalize(a i).a=ia at*;generalize(a i).b=ib at*;go_enter func293,ntmps293;go_wp2
  go_region
  go_wp2;rw[<-HW1.out];obtain⟨v0,st,w2,w3,v1,st',w4,w5,e1,e2,e3,e4,HX⟩:=HE.out w1.drew.drew (((Fr.refl NoF w1).drew).drew)
  go_region_held3(λw'=>w'.cell? ⟨qb,0,none⟩=some (.slice (some ⟨gb,0,none⟩) n cap)/\w'.cell? ⟨qb,1,none⟩=some (.map (some mb))/\w'.cell? ⟨gb,i*3,none⟩=some (.int .i64 ix)/\w'.cell? ⟨gb,i*3,none⟩=some (.int .i64 ix))
   (exact HS.out _ (by first|exact HX.out.1|exact HX.out.2.1|exact HX.out.2.2.1|exact HX.out.2.2.2.1|exact((Fr.refl _ w1).drew).drew))
   (fail)
  go_wp2;go_returns;exact⟨rfl,HK.out w5 HX.out.2.2.2.2 HX.out.2.2.2.1⟩
 .have hji:¬j=i:=λe=>hij e.symm
  generalize(a i).x=ix at*;generalize(a i).a=ia at*;generalize(a i).b=ib at*;generalize(a j).x=jx at*;generalize(a j).a=ja at*;generalize(a j).b=jb at*;go_enter func293,ntmps293;go_wp2
  go_region
  go_wp2;rw[<-HW1.out];obtain⟨v0,st,w2,w3,v1,st',w4,w5,e1,e2,e3,e4,HX⟩:=HE.out w1.drew.drew (((Fr.refl NoF w1).drew).drew)
  go_region_held3(λw'=>w'.cell? ⟨qb,0,none⟩=some (.slice (some ⟨gb,0,none⟩) n cap)/\w'.cell? ⟨qb,1,none⟩=some (.map (some mb))/\w'.cell? ⟨gb,i*3,none⟩=some (.int .i64 jx)/\w'.cell? ⟨gb,j*3,none⟩=some (.int .i64 ix))
   (exact HS.out _ (by first|exact HX.out.1|exact HX.out.2.1|exact HX.out.2.2.1|exact HX.out.2.2.2.1|exact((Fr.refl _ w1).drew).drew))
   (fail)
  go_wp2;go_returns;exact⟨rfl,HK.out w5 HX.out.2.2.2.2 HX.out.2.2.2.1⟩
end
def oj(t:Th):Value:=.iface 307 (thV t)
def okT(a:Nat->Th)(n:Nat)(t:Th):Prop:=n<900000/\wb t/\∀k,k<n->¬(a k).x=t.x
theorem EIt:EI prog 214 307 3 24:=EI.mk' (z:=.agg #[.int .i64 0,.int .i64 0,.int .i64 0]) underlying214 (by kernel_rfl) rfl (by decide)
section
variable{w w':World}{qb n:Nat}{a:Nat->Th}{lv:Value}{mo:Option Nat}{g:Int->Option Int}{F:Nat->Prop}
theorem QC.grown{mb:Nat}(h:QC w qb a n lv (some mb) g){t:Th}(ht:okT a n t){wB w2:World}{lv':Value}(f0:Fr (λi=>i=mb) w wB)(hm:MpN prog 3 3 .i64 .i64 wB mb (n+1) (bY g t.x (some (n:Int))))
  (hs:SlF w2 307 3 lv' (n+1) (upd (upd (upd (thF a) (n*3) (.int .i64 t.x)) (n*3+1) (.int .i64 t.a)) (n*3+2) (.int .i64 t.b)))(f:Fr (λb=>lv.ownBlock=some b) wB w2)(ho:∀b,lv'.ownBlock=some b->lv.ownBlock=some b\/wB.heap.size<=b):
  w2.cell? ⟨qb,0,none⟩=some lv/\w2.frozen? ⟨qb,0,none⟩=false/\qb<w2.heap.size/\
  Hid (HRq qb (w2.setCell ⟨qb,0,none⟩ lv') (upd a n t) (n+1) (FQ qb lv' (some mb))/\Fr (FQ qb lv (some mb)) w (w2.setCell ⟨qb,0,none⟩ lv')/\∀i,FQ qb lv' (some mb) i->FQ qb lv (some mb) i\/w.heap.size<=i):=by
 obtain⟨hn,hok,hne⟩:=ht;have k3:=h.n2 mb rfl;have hb1:=(h.hd.fr f0 (λq=>k3 q.symm)).fr f (λq=>(h.n1 qb q).1 rfl);rw[j8]at hs;have hz:=f0.size;have hz2:=f.size
 have n1':∀b,lv'.ownBlock=some b->¬b=qb/\¬(some mb)=some b:=by
  intro b q;rcases ho b q with q|q
  .exact h.n1 b q
  .refine⟨?_,?_⟩
   .have:=h.hd.lt;omega
   .rintro⟨rfl⟩
    have:=hm.lt;omega
 have fs:Fr (λi=>i=qb) w2 (w2.setCell ⟨qb,0,none⟩ lv'):=(Fr.refl (λi=>i=qb) w2).setCell (p:=⟨qb,0,none⟩) (.inl rfl) _
 have hgn:g t.x=none:=by
  cases e:g t.x with
  |none=>rfl
  |some k=>
   obtain⟨j,_,hj,q⟩:=(h.pl t.x k).1 e;exact(hne j hj q).elim
 refine⟨hb1.cell (i:=0) (by omega),hb1.frozen 0,hb1.lt,⟨lv',some mb,_,⟨?_,hs.fr fs (λb q e=>(n1' b q).1 e),(MpN.fr hm f (λq=>(h.n1 mb q).2 rfl)).fr fs (λq=>k3 q),λx k=>?_,λk hk=>?_,n1',h.n2,by omega⟩,λi=>Iff.rfl⟩,((f0.mono (λi q=>.inr (.inr (by rw[q])))).trans f (λi q=>.inl (.inr (.inl q)))).trans fs (λi q=>.inl (.inl q)),?_⟩
 .have h1:=hb1.set 0 lv'
  refine h1.congr (λi hi=>?_)
  match i,hi with
  |0,_=>rfl
  |1,_=>rfl
 .by_cases e:x=t.x
  .subst e
   rw[aU];constructor
   .rintro⟨rfl⟩
    exact⟨n,rfl,by omega,by rw[upd_same]⟩
   .rintro⟨j,rfl,hj,q⟩
    by_cases ej:j=n
    .rw[ej]
    .rw[ab _ _ ej]at q
     exact(hne j (by omega) q).elim
  .rw[aB _ _ e,h.pl x k]
   constructor
   .rintro⟨j,rfl,hj,q⟩
    exact⟨j,rfl,by omega,by rw[ab _ _ (by omega)];exact q⟩
   .rintro⟨j,rfl,hj,q⟩
    by_cases ej:j=n
    .subst ej;rw[upd_same]at q;exact(e q.symm).elim
    .rw[ab _ _ ej]at q
     exact⟨j,rfl,by omega,q⟩
 .by_cases ek:k=n
  .subst ek;rw[upd_same];exact hok
  .rw[ab _ _ ek];exact h.ok k (by omega)
 .rintro i(q|q|q)
  .exact .inl (.inl q)
  .rcases ho i q with q|q
   .exact .inl (.inr (.inl q))
   .exact .inr (by omega)
  .exact .inl (.inr (.inr q))
theorem Eb(h:QC w qb a n lv mo g){t:Th}(ht:okT a n t):Calls prog 292 #[.pointer (some ⟨qb,0,none⟩),oj t] w λe w'=>e=.returned (.tuple #[])/\∃F',HRq qb w' (upd a n t) (n+1) F'/\Fr (FQ qb lv mo) w w'/\∀i,F' i->FQ qb lv mo i\/w.heap.size<=i:=by
 obtain⟨tx,ta,tb⟩:=t;unfold oj thV;have hta:∀W:World,(Instr.typeAssert (.iface 307 (.agg #[.int .i64 tx,.int .i64 ta,.int .i64 tb])) 20 307 false).run prog W=.ok (.agg #[.int .i64 tx,.int .i64 ta,.int .i64 tb]) W:=λW=>by kernel_rfl
 have hn:=ht.1;have HOK:=Hd ht;have c0:=h.c0;have c1:=h.c1;have f1:=h.hd.frozen 1;have lb:=h.hd.lt;obtain⟨va,vc,rfl,v1,v2⟩:=h.li.shape;unfold maxLen at v2
 cases mo
 case' some mb=>
  obtain⟨w1,rfl⟩:∃w1,w1=w:=⟨_,rfl⟩;have H1:=Hd h;obtain⟨gg,rfl⟩:∃x,x=g:=⟨_,rfl⟩;have HFIN:=Hd (λ(w'':World) (F':Nat->Prop) (r2:Fr (FQ qb (.slice va n vc) (some mb)) w1 w'') (r3:∀i,F' i->FQ qb (.slice va n vc) (some mb) i\/w1.heap.size<=i)=>And.intro r2 r3);have heq:∀W:World,(binOp .eql 215 (.map (some mb)) (.map none)).run prog W=.ok (.bool false) W:=λW=>by first|rfl|kernel_rfl
  clear h ht;go_enter func292,ntmps292;go_wp2
 case' none=>
  have hn0:n=0:=h.mp.1;have hmm:=@run_makeMap prog
  have H1':Hid (∀w1,w1=(w.setCell ⟨qb,1,none⟩ (.map (some w.heap.size))).alloc (.map #[] 0)->∀mb,mb=w.heap.size->∃g',QC w1 qb a n (.slice va n vc) (some mb) g'/\Fr (λi=>i=qb) w w1):=by
   subst hn0;rintro w1 rfl mb rfl;have fs:Fr (λi=>i=qb) w (w.setCell ⟨qb,1,none⟩ (.map (some w.heap.size))):=(Fr.refl (λi=>i=qb) _).setCell (p:=⟨qb,1,none⟩) (.inl rfl) _;have fa:Fr NoF (w.setCell ⟨qb,1,none⟩ (.map (some w.heap.size))) ((w.setCell ⟨qb,1,none⟩ (.map (some w.heap.size))).alloc (.map #[] 0)):=(Fr.refl NoF _).alloc _;have hl:=h.hd.lt;have hm:=MpN.made prog 3 3 .i64 .i64 (w.setCell ⟨qb,1,none⟩ (.map (some w.heap.size)));rw[show(w.setCell ⟨qb,1,none⟩ (.map (some w.heap.size))).heap.size=w.heap.size from by simp]at hm;refine⟨λ_=>none,⟨((h.hd.set 1 _).fr fa (λq=>q)).congr (λi hi=>?_),(h.li.fr fs (λb q e=>(h.n1 b q).1 e)).fr fa (λ_ _ q=>q),hm,λx k=>⟨λq=>(by cases q),λ⟨j,_,q,_⟩=>(by omega)⟩,λk q=>(by omega),λb q=>⟨(h.n1 b q).1,?_⟩,?_,by omega⟩,fs.trans fa (λ_ q=>q.elim)⟩
   .match i,hi with
    |0,_=>rfl
    |1,_=>rfl
   .rintro⟨rfl⟩
    have:=h.li.lt _ q;omega
   .rintro b⟨rfl⟩
    omega
  have heq:∀W:World,(binOp .eql 215 (.map none) (.map none)).run prog W=.ok (.bool true) W:=λW=>by first|rfl|kernel_rfl
  clear h ht hn0;go_enter func292,ntmps292
  go_upto_region 2 with fail
  obtain⟨w1,hw1⟩:∃w1,w1=(w.setCell ⟨qb,1,none⟩ (.map (some w.heap.size))).alloc (.map #[] 0):=⟨_,rfl⟩;rw[<-hw1];obtain⟨mb,hmb⟩:∃mb,mb=w.heap.size:=⟨_,rfl⟩;rw[<-hmb];obtain⟨gg,hq,fq⟩:=H1'.out w1 hw1 mb hmb;have H1:=Hd hq
  have HFIN:Hid (∀(w'':World) (F':Nat->Prop),Fr (FQ qb (.slice va n vc) (some mb)) w1 w''->(∀i,F' i->FQ qb (.slice va n vc) (some mb) i\/w1.heap.size<=i)->Fr (FQ qb (.slice va n vc) none) w w''/\∀i,F' i->FQ qb (.slice va n vc) none i\/w.heap.size<=i):=by
   intro w'' F' r2 r3;have hz:=fq.size
   have key:∀i,FQ qb (.slice va n vc) (some mb) i->FQ qb (.slice va n vc) none i\/w.heap.size<=i:=by
    rintro i(q|q|q)
    .exact .inl (.inl q)
    .exact .inl (.inr (.inl q))
    .right;have:=Option.some.inj q;omega
   exact⟨(fq.mono (λi q=>.inl q)).trans r2 key,λi q=>(r3 i q).elim (key i) (λq=>.inr (by omega))⟩
  clear hq fq hw1 H1' hmm c0 c1 f1 lb;clear hmb;go_wp2
 all_goals
  have HSA:Hid (∀W,Fr NoF (w1.alloc (.cells #[.int .i64 tx,.int .i64 ta,.int .i64 tb] 307)) W->W.cell? ⟨qb,0,none⟩=some (.slice va n vc)/\W.cell? ⟨qb,1,none⟩=some (.map (some mb))/\W.cell? ⟨w1.heap.size,0,none⟩=some (.int .i64 tx)):=by
   intro W f;have fa:Fr NoF w1 W:=((Fr.refl NoF w1).alloc _).trans f (λ_ q=>q.elim)
   have b1:Blk (w1.alloc (.cells #[.int .i64 tx,.int .i64 ta,.int .i64 tb] 307)) w1.heap.size 3 (λi=>if i=0 then .int .i64 tx else if i=1 then .int .i64 ta else .int .i64 tb):=Blk.new w1 _ 307 3 _ _ rfl rfl (λi hi=>by
    match i,hi with
    |0,_=>rfl
    |1,_=>rfl
    |2,_=>rfl)
   exact⟨(H1.out.fr0 fa).c0,(H1.out.fr0 fa).c1,(b1.fr f (λq=>q)).cell (i:=0) (by omega)⟩
  have fA:Fr NoF w1 ((w1.alloc (.cells #[.int .i64 tx,.int .i64 ta,.int .i64 tb] 307)).drew):=((Fr.refl NoF w1).alloc _).drew;obtain⟨wB,hrun,hmB,fB⟩:=(MpN.fr H1.out.mp fA (λq=>q)).put_run MIq (by omega) (x:=tx) (y:=(n:Int)) HOK.out.2.1.1 (WalkArith.wf_i64 ⟨by omega,by omega⟩)
  have HMB:Hid (MpN prog 3 3 .i64 .i64 wB mb (n+1) (bY gg tx (some (n:Int)))):=by
   have hgn:gg tx=none:=by
    cases e:gg tx with
    |none=>rfl
    |some k=>
     obtain⟨j,_,hj,q⟩:=(H1.out.pl tx k).1 e;exact(HOK.out.2.2 j hj q).elim
   rw[hgn]at hmB;exact hmB
  have HFB:=Hd fB;have HFA:=Hd fA
  have HSB:Hid (∀W,Fr NoF wB W->W.cell? ⟨qb,0,none⟩=some (.slice va n vc)/\W.cell? ⟨qb,1,none⟩=some (.map (some mb))/\W.cell? ⟨w1.heap.size,0,none⟩=some (.int .i64 tx)/\W.cell? ⟨w1.heap.size,1,none⟩=some (.int .i64 ta)/\W.cell? ⟨w1.heap.size,2,none⟩=some (.int .i64 tb)):=by
   intro W f;have k3:=H1.out.n2 mb rfl;have hml:=MpN.lt H1.out.mp
   have b1:Blk (w1.alloc (.cells #[.int .i64 tx,.int .i64 ta,.int .i64 tb] 307)) w1.heap.size 3 (λi=>if i=0 then .int .i64 tx else if i=1 then .int .i64 ta else .int .i64 tb):=Blk.new w1 _ 307 3 _ _ rfl rfl (λi hi=>by
    match i,hi with
    |0,_=>rfl
    |1,_=>rfl
    |2,_=>rfl)
   have b2:=((b1.drew).fr HFB.out (λq=>by omega)).fr f (λq=>q);have hd2:=((H1.out.hd.fr HFA.out (λq=>q)).fr HFB.out (λq=>k3 q.symm)).fr f (λq=>q);exact⟨hd2.cell (i:=0) (by omega),hd2.cell (i:=1) (by omega),b2.cell (i:=0) (by omega),b2.cell (i:=1) (by omega),b2.cell (i:=2) (by omega)⟩
  clear hmB fB fA
  go_region_held3(λw'=>w'.cell? ⟨qb,0,none⟩=some (.slice va n vc)/\w'.cell? ⟨qb,1,none⟩=some (.map (some mb))/\w'.cell? ⟨w1.heap.size,0,none⟩=some (.int .i64 tx))
   (first|(obtain⟨z0,z1,z2,_⟩:=HSB.out _ (Fr.refl NoF wB);exact⟨z0,z1,z2⟩)|exact HSA.out _ (by repeat(first|exact Fr.refl NoF _|apply Fr.drew|apply Fr.drewN|apply Fr.alloc)))
   (fail)
  clear hrun;obtain⟨z0,z1,z2,z3,z4⟩:=HSB.out wB (Fr.refl NoF wB);have lbB:qb<wB.heap.size:=by have:=HFA.out.size;have:=HFB.out.size;have:=H1.out.hd.lt;omega
  have ltB:w1.heap.size<wB.heap.size:=by have:=HFB.out.size;simp at this;omega
  have HLI:Hid (SlF wB 307 3 (.slice va n vc) n (thF a)):=(H1.out.li.fr HFA.out (λ_ _ q=>q)).fr HFB.out (λb q e=>by rw[e]at q;exact(H1.out.n1 mb q).2 rfl)
  have K:Hid (∀pv' w2 W,Fr NoF wB W->SlF w2 307 3 pv' (n+1) (upd (upd (upd (thF a) (n*3) (.int .i64 tx)) (n*3+1) (.int .i64 ta)) (n*3+2) (.int .i64 tb))->Fr (λb=>(Value.slice va n vc).ownBlock=some b) W w2->(∀b,pv'.ownBlock=some b->(Value.slice va n vc).ownBlock=some b\/W.heap.size<=b)->
    w2.cell? ⟨qb,0,none⟩=some (.slice va n vc)/\w2.frozen? ⟨qb,0,none⟩=false/\qb<w2.heap.size/\
    Hid (HRq qb (w2.setCell ⟨qb,0,none⟩ pv') (upd a n ⟨tx,ta,tb⟩) (n+1) (FQ qb pv' (some mb))/\Fr (FQ qb (.slice va n vc) (some mb)) w1 (w2.setCell ⟨qb,0,none⟩ pv')/\∀i,FQ qb pv' (some mb) i->FQ qb (.slice va n vc) (some mb) i\/w1.heap.size<=i)):=by
   intro pv' w2 W fW hs f ho;have fz:=fW.size;exact H1.out.grown HOK.out ((HFA.out.mono (λ_ q=>q.elim)).trans HFB.out (λi q=>.inl q)) HMB.out hs ((fW.mono (λ_ q=>q.elim)).trans f (λi q=>.inl q)) (λb q=>(ho b q).imp id (λq=>by omega))
  go_wp2
  go_region_law(first
   |(refine fY (base:=0) EIt rfl (.tmp 31) (.tmp 33) rfl (by rfl) (by rfl) (Nat.zero_le _) (aW HLI.out (by repeat(first|exact Fr.refl NoF _|apply Fr.drew|apply Fr.drewN|apply Fr.alloc)) (λ_ _ q=>q)) (j9 (size:=3) (n:=1) (cs:=#[.int .i64 tx,.int .i64 ta,.int .i64 tb]) (by(try rw[heap_drew]);refine heap_alloc_new _ _ _ ?_;simp) (by rfl) (by unfold maxLen;omega) (by simp[Value.oneCell'])) (by unfold maxLen;omega) (by omega) ?_;intro v' w2 hown' hf' hob';obtain⟨a8,c8,rfl,_,_⟩:=(SlF.snoc3 hown').shape;obtain⟨y0,y1,y2,KK⟩:=K.out _ w2 _ (by repeat(first|exact Fr.refl NoF _|apply Fr.drew|apply Fr.drewN|apply Fr.alloc)) (SlF.snoc3 hown') hf' hob';clear hown' hf' hob'))
  all_goals
   go_wp2;go_returns;obtain⟨r1,r2,r3⟩:=KK.out;exact⟨rfl,_,r1,HFIN.out _ _ r2 r3⟩
theorem QC.cut{gb cap mb:Nat}(h:QC w qb a (n+1) (.slice (some ⟨gb,0,none⟩) (n+1) cap) (some mb) g){w1 w2:World}(f1:Fr (λi=>i=qb) w w1)(h1:w1.heap[qb]?=(w.setCell ⟨qb,0,none⟩ (.slice (some ⟨gb,0,none⟩) n cap)).heap[qb]?)(f2:Fr (λi=>i=mb) w1 w2)(hm:MpN prog 3 3 .i64 .i64 w2 mb n (bY g (a n).x none)):
  HRq qb w2 a n (FQ qb (.slice (some ⟨gb,0,none⟩) (n+1) cap) (some mb))/\Fr (FQ qb (.slice (some ⟨gb,0,none⟩) (n+1) cap) (some mb)) w w2:=by
 have k3:=h.n2 mb rfl;obtain⟨k1,k2⟩:=h.n1 gb rfl;have k2':¬gb=mb:=λq=>k2 (by rw[q])
 have hb:=((h.hd.set 0 (.slice (some ⟨gb,0,none⟩) n cap)).ofHeap h1).fr f2 (λq=>k3 q.symm);refine⟨⟨.slice (some ⟨gb,0,none⟩) n cap,some mb,_,⟨hb.congr (λi hi=>?_),((h.li.cut (m:=n) (by omega)).fr f1 (λb q e=>k1 (by rw[e]at q;have:=Option.some.inj q;omega))).fr f2 (λb q e=>k2' (by rw[e]at q;have:=Option.some.inj q;omega)),hm,λx k=>?_,λk hk=>h.ok k (by omega),λb q=>h.n1 b q,h.n2,by have:=h.sm;omega⟩,λi=>Iff.rfl⟩,(f1.mono (λi q=>.inl q)).trans f2 (λi q=>.inl (.inr (.inr (by rw[q]))))⟩
 .match i,hi with
  |0,_=>rfl
  |1,_=>rfl
 .have hij:=h.inj
  by_cases e:x=(a n).x
  .subst e
   rw[aU];constructor
   .intro q;cases q
   .rintro⟨j,rfl,hj,q⟩
    have:=hij j n (by omega) (by omega) q;omega
  .rw[aB _ _ e,h.pl x k]
   constructor
   .rintro⟨j,rfl,hj,q⟩
    refine⟨j,rfl,?_,q⟩;have:¬j=n:=λe2=>e (by rw[<-q,e2])
    omega
   .rintro⟨j,rfl,hj,q⟩
    exact⟨j,rfl,by omega,q⟩
theorem Fh(h:QC w qb a (n+1) lv mo g):Calls prog 291 #[.pointer (some ⟨qb,0,none⟩)] w λe w'=>e=.returned (oj (a n))/\HRq qb w' a n (FQ qb lv mo)/\Fr (FQ qb lv mo) w w':=by
 have hn:=h.sm;have c0:=h.c0;have c1:=h.c1;have f0:=h.hd.frozen 0;have lb:=h.hd.lt;obtain⟨gb,cap,rfl,h1,h2,h3,h4,i0,i1,i2⟩:=h.el (i:=n) (by omega)
 cases mo with
 |none=>have:=h.mp.1;omega
 |some mb=>
  obtain⟨k1,k2⟩:=h.n1 gb rfl;have k3:=h.n2 mb rfl;have hml:=MpN.lt h.mp;have HH:=Hd h;have okn:=(h.ok n (by omega)).1;have OKN:Hid (i64 (a n).x):=okn;have HEN:Hid (oj (a n)=.iface 307 (.agg #[.int .i64 (a n).x,.int .i64 (a n).a,.int .i64 (a n).b])):=rfl;have e1:((n+1:Nat):Int)-1=(n:Int):=by omega
  have HKF:Hid (∀w1 w2,w1=((w.alloc (.cells #[.int .i64 (a n).x,.int .i64 (a n).a,.int .i64 (a n).b] 307)).setCell ⟨qb,0,none⟩ (.slice (some ⟨gb,0,none⟩) n cap)).drew\/w1=((w.setCell ⟨qb,0,none⟩ (.slice (some ⟨gb,0,none⟩) n cap)).alloc (.cells #[.int .i64 (a n).x,.int .i64 (a n).a,.int .i64 (a n).b] 307)).drew->MpN prog 3 3 .i64 .i64 w1 mb (n+1) g/\(MpN prog 3 3 .i64 .i64 w2 mb (if(g (a n).x).isSome then n+1-1 else n+1) (bY g (a n).x none)->Fr (λi=>i=mb) w1 w2->HRq qb w2 a n (FQ qb (.slice (some ⟨gb,0,none⟩) (n+1) cap) (some mb))/\Fr (FQ qb (.slice (some ⟨gb,0,none⟩) (n+1) cap) (some mb)) w w2)):=by
   intro w1 w2 hw;have hz:qb<w.heap.size:=lb
   have fq:Fr (λi=>i=qb) w w1:=by
    rcases hw with rfl|rfl
    .exact(((Fr.refl (λi=>i=qb) w).alloc _).setCell (p:=⟨qb,0,none⟩) (.inl rfl) _).drew
    .exact(((Fr.refl (λi=>i=qb) w).setCell (p:=⟨qb,0,none⟩) (.inl rfl) _).alloc _).drew
   have hq:w1.heap[qb]?=(w.setCell ⟨qb,0,none⟩ (.slice (some ⟨gb,0,none⟩) n cap)).heap[qb]?:=by
    rcases hw with rfl|rfl
    .show((w.alloc _).setCell ⟨qb,0,none⟩ _).heap[qb]?=_
     simp only[World.setCell,Array.getElem?_modify,if_true];rw[Below.heap_alloc w _ qb hz]
    .show((w.setCell ⟨qb,0,none⟩ _).alloc _).heap[qb]?=_
     rw[Below.heap_alloc _ _ qb (by simpa using hz)]
   refine⟨MpN.fr HH.out.mp fq (λq=>k3 q),λhm f2=>HH.out.cut fq hq f2 ?_⟩;have hg:(g (a n).x).isSome=true:=by rw[(HH.out.pl (a n).x (n:Int)).2 ⟨n,rfl,by omega,rfl⟩];rfl
   rw[if_pos hg,Nat.add_sub_cancel]at hm;exact hm
  rw[HEN.out];clear h okn HEN;generalize hax:(a n).x=ix at*;generalize(a n).a=ia at*;generalize(a n).b=ib at*;have HAX:=Hd hax;clear hax;go_enter func291,ntmps291;go_wp2
  have hW:Hid (∀W,W=((w.setCell ⟨qb,0,none⟩ (.slice (some ⟨gb,0,none⟩) n cap)).alloc (.cells #[.int .i64 ix,.int .i64 ia,.int .i64 ib] 307)).drew->∀W',Fr (λi=>i=mb) W W'->W'.cell? ⟨qb,1,none⟩=some (.map (some mb))/\W'.cell? ⟨w.heap.size,0,none⟩=some (.int .i64 ix)/\W'.cell? ⟨w.heap.size,1,none⟩=some (.int .i64 ia)/\W'.cell? ⟨w.heap.size,2,none⟩=some (.int .i64 ib)):=by
   rintro W rfl W' f
   have b1:Blk ((w.setCell ⟨qb,0,none⟩ (.slice (some ⟨gb,0,none⟩) n cap)).alloc (.cells #[.int .i64 ix,.int .i64 ia,.int .i64 ib] 307)) w.heap.size 3 (λi=>if i=0 then .int .i64 ix else if i=1 then .int .i64 ia else .int .i64 ib):=Blk.new _ _ 307 3 _ _ (by simp) rfl (λi hi=>by
    match i,hi with
    |0,_=>rfl
    |1,_=>rfl
    |2,_=>rfl)
   have b2:=b1.drew.fr f (λq=>by omega);have hb:=((((HH.out.hd.set 0 (.slice (some ⟨gb,0,none⟩) n cap)).alloc (.cells #[.int .i64 ix,.int .i64 ia,.int .i64 ib] 307)).drew).fr f (λq=>k3 q.symm)).cell (i:=1) (by omega);exact⟨hb,b2.cell (i:=0) (by omega),b2.cell (i:=1) (by omega),b2.cell (i:=2) (by omega)⟩
  have lt0:w.heap.size<(((w.setCell ⟨qb,0,none⟩ (.slice (some ⟨gb,0,none⟩) n cap)).alloc (.cells #[.int .i64 ix,.int .i64 ia,.int .i64 ib] 307)).drew).heap.size:=by simp
  go_region_held3(λw'=>w'.cell? ⟨qb,1,none⟩=some (.map (some mb))/\w'.cell? ⟨w.heap.size,0,none⟩=some (.int .i64 ix)/\w'.cell? ⟨w.heap.size,1,none⟩=some (.int .i64 ia)/\w'.cell? ⟨w.heap.size,2,none⟩=some (.int .i64 ib))
   (first|exact HWF.out|exact hW.out _ rfl _ (Fr.refl _ _))
   (first
    |(refine Gv MIq (HKF.out _ w (.inr rfl)).1 rfl (.tmp 30) (.tmp 32) rfl (by rfl) (by rfl) OKN.out ?_;intro w9 hm9 f9;have HWF:=Hd (hW.out _ rfl w9 f9);have HEND:=Hd ((HKF.out _ w9 (.inr rfl)).2 hm9 f9);have lt9:w.heap.size<w9.heap.size:=Nat.lt_of_lt_of_le lt0 f9.size;clear hm9 f9))
  all_goals
   obtain⟨y0,y1,y2,y3⟩:=HWF.out;go_wp2;go_returns;exact⟨rfl,HEND.out⟩
theorem jH(qb:Nat):ir 300 218 290 293 292 291 ltT (HRq qb) ⟨qb,0,none⟩ oj okT where
 own:=⟨cz func218 (by kernel_rfl) rfl,cz func290 (by kernel_rfl) rfl,cz func293 (by kernel_rfl) rfl,cz func292 (by kernel_rfl) rfl,cz func291 (by kernel_rfl) rfl⟩
 fr:=by
  rintro w w' a n F G⟨lv,mo,g,h,hF⟩f hG;exact⟨lv,mo,g,h.fr f (λi q=>hG i ((hF i).2 q)),hF⟩
 bd:=by
  rintro w a n F⟨lv,mo,g,h,hF⟩i hi;exact h.lt i ((hF i).1 hi)
 small:=by
  rintro w a n F⟨lv,mo,g,h,hF⟩;exact h.sm
 len:=by
  rintro w a n F⟨lv,mo,g,h,hF⟩;obtain⟨ti,hti,hm⟩:=bh (P:=prog) (t:=300) (name:= "Len") (f:=218) (b:=true) (by kernel_rfl);exact⟨_,bG hti hm underlying300,(q_len h).mono λe w' ⟨he,hw⟩=>⟨he,hw▸Fr.refl _ _⟩⟩
 less:=by
  rintro w a n F i j⟨lv,mo,g,h,hF⟩hi hj;obtain⟨ti,hti,hm⟩:=bh (P:=prog) (t:=300) (name:= "Less") (f:=290) (b:=true) (by kernel_rfl);exact⟨_,bG hti hm underlying300,DJ h hi hj⟩
 swap:=by
  rintro w a n F i j⟨lv,mo,g,h,hF⟩hi hj;obtain⟨ti,hti,hm⟩:=bh (P:=prog) (t:=300) (name:= "Swap") (f:=293) (b:=true) (by kernel_rfl);refine⟨_,bG hti hm underlying300,(DO h hi hj).mono λe w' ⟨he,⟨lv',mo',g',h',hF'⟩,hf⟩=>⟨he,⟨lv',mo',g',h',λi=>(hF i).trans (hF' i)⟩,hf.mono (λi q=>(hF i).2 q)⟩⟩
 push:=by
  rintro w a n F t⟨lv,mo,g,h,hF⟩ht;obtain⟨ti,hti,hm⟩:=bh (P:=prog) (t:=300) (name:= "Push") (f:=292) (b:=true) (by kernel_rfl);refine⟨_,bG hti hm underlying300,(Eb h ht).mono λe w' ⟨he,F',h',hf,hF'⟩=>⟨he,F',h',hf.mono (λi q=>(hF i).2 q),λi q=>(hF' i q).imp (λq=>(hF i).2 q) id⟩⟩
 pop:=by
  rintro w a n F⟨lv,mo,g,h,hF⟩;obtain⟨ti,hti,hm⟩:=bh (P:=prog) (t:=300) (name:= "Pop") (f:=291) (b:=true) (by kernel_rfl);refine⟨_,bG hti hm underlying300,(Fh h).mono λe w' ⟨he,⟨lv',mo',g',h',hF'⟩,hf⟩=>⟨he,⟨lv',mo',g',h',λi=>(hF i).trans (hF' i)⟩,hf.mono (λi q=>(hF i).2 q)⟩⟩
end
theorem iI:Ord ltT:=⟨λx y h=>by rw[u9]at h;rw[o8];omega,λx y z h1 h2=>by rw[o8]at*;omega⟩
def QS(w:World)(qb:Nat)(M:Th->Prop)(n:Nat)(F:Nat->Prop):Prop:=∃a,HRq qb w a n F/\br ltT a n/\∀t,M t↔∃k,k<n/\a k=t
section
variable{w w':World}{qb n:Nat}{a:Nat->Th}{lv:Value}{mo:Option Nat}{g:Int->Option Int}{F:Nat->Prop}{M:Th->Prop}
theorem QS.fr(h:QS w qb M n F){G:Nat->Prop}(f:Fr G w w')(hG:∀i,F i->¬G i):QS w' qb M n F:=by
 obtain⟨a,h,r⟩:=h;exact⟨a,(jH qb).fr h f hG,r⟩
theorem QS.fr0(h:QS w qb M n F)(f:Fr NoF w w'):QS w' qb M n F:=h.fr f (λ_ _ q=>q)
theorem QS.lt(h:QS w qb M n F):∀i,F i->i<w.heap.size:=by
 obtain⟨a,h,r⟩:=h;exact(jH qb).bd h
theorem QS.congr(h:QS w qb M n F){M':Th->Prop}(e:∀t,M t↔M' t):QS w qb M' n F:=by
 obtain⟨a,h,hh,hM⟩:=h;exact⟨a,h,hh,λt=>(e t).symm.trans (hM t)⟩
theorem Eo(w:World):Calls prog 68 #[] w λe w'=>e=.returned (.pointer (some ⟨w.heap.size,0,none⟩))/\QS w' w.heap.size (λ_=>False) 0 (λi=>i=w.heap.size)/\Fr NoF w w':=by
 have K:Hid (QS (w.alloc (.cells #[.slice none 0 0,.map none] 219)) w.heap.size (λ_=>False) 0 (λi=>i=w.heap.size)):=by
  refine⟨λ_=>⟨0,0,0⟩,⟨.slice none 0 0,none,λ_=>none,⟨⟨_,_,heap_alloc_new _ _ _ rfl,rfl,λi hi=>?_⟩,SlF.nil _ _ _ _,⟨rfl,λ_=>rfl⟩,λx k=>⟨λq=>(by cases q),λ⟨j,_,q,_⟩=>(by omega)⟩,λk q=>(by omega),λb q=>(by cases q),λb q=>(by cases q),by omega⟩,λi=>⟨λq=>.inl q,λq=>?_⟩⟩,λk _ q=>(by omega),λt=>⟨λq=>q.elim,λ⟨k,q,_⟩=>(by omega)⟩⟩
  .match i,hi with
   |0,_=>rfl
   |1,_=>rfl
  .rcases q with q|q|q
   .exact q
   .cases q
   .cases q
 go_enter func68,ntmps68;go_wp2;go_returns;exact⟨rfl,K.out,(Fr.refl NoF w).alloc _⟩
theorem so(h:QS w qb M n F):Calls prog 216 #[.pointer (some ⟨qb,0,none⟩)] w λe w'=>e=.returned (.int .i64 (n:Nat))/\w=w':=by
 obtain⟨a,⟨lv,mo,g,h,hF⟩,_⟩:=h;have HL:=Hd (q_len h);have lb:=h.hd.lt;clear h hF;go_enter func216,ntmps216
 go_wp2_with fail
 refine HL.out.mono ?_;rintro e w1⟨rfl,rfl⟩;go_wp2;go_returns;exact⟨rfl,rfl⟩
theorem jI(h:QC w qb a n lv mo g){k:Nat}(hk:k<n):Calls prog 210 #[.pointer (some ⟨qb,0,none⟩),.int .i64 (a k).x] w λe w'=>e=.returned (.tuple #[.int .i64 k,.bool true])/\w=w':=by
 have c1:=h.c1;have lb:=h.hd.lt;have HX:Hid (g (a k).x=some (k:Int)):=(h.pl (a k).x (k:Int)).2 ⟨k,rfl,hk,rfl⟩;have HW:Hid (i64 (a k).x):=(h.ok k hk).1
 cases mo with
 |none=>have:=h.mp.1;omega
 |some mb=>
  have HM:Hid (MpN prog 3 3 .i64 .i64 w mb n g):=h.mp;generalize(a k).x=x at*;clear h;go_enter func210,ntmps210
  go_wp2_with(at_lookup;go_must(refine bz MIq HM.out HX.out rfl _ _ rfl (by rfl) (by rfl) HW.out ?_))
  go_returns;exact⟨rfl,rfl⟩
theorem kO(h:QC w qb a n lv mo g){x:Int}(hx:i64 x)(hno:∀k,k<n->¬(a k).x=x):Calls prog 210 #[.pointer (some ⟨qb,0,none⟩),.int .i64 x] w λe w'=>e=.returned (.tuple #[.int .i64 0,.bool false])/\w=w':=by
 have c1:=h.c1;have lb:=h.hd.lt
 have HX:Hid (g x=none):=by
  cases e:g x with
  |none=>rfl
  |some k=>
   obtain⟨j,_,hj,q⟩:=(h.pl x k).1 e;exact(hno j hj q).elim
 have HW:=Hd hx
 cases mo with
 |none=>
  have hln:∀W:World,(Instr.lookup 215 (.map none) (.int .i64 x) true).run prog W=.ok (.tuple #[.int .i64 0,.bool false]) W:=by
   intro W;have:=Maps.look_nil (P:=prog) (w:=W) true (int_keyed MIq.uk) MIq.ut (MIq.z W) (keyOf_int_mk MIq.uk hx);exact this
  clear h hno hx;go_enter func210,ntmps210;go_wp2;go_returns;exact⟨rfl,rfl⟩
 |some mb=>
  have HM:Hid (MpN prog 3 3 .i64 .i64 w mb n g):=h.mp;clear h hno hx;go_enter func210,ntmps210
  go_wp2_with(at_lookup;go_must(refine bB MIq HM.out HX.out rfl _ _ rfl (by rfl) (by rfl) HW.out ?_))
  go_returns;exact⟨rfl,rfl⟩
theorem rz(h:QS w qb M 0 F):Calls prog 215 #[.pointer (some ⟨qb,0,none⟩)] w λe w'=>e=.returned (.tuple #[.int .i64 0,.bool false])/\w=w':=by
 have HL:=Hd (so h);clear h;go_enter func215,ntmps215
 go_wp2_with fail
 refine HL.out.mono ?_;rintro e w1⟨rfl,rfl⟩;go_wp2;go_returns;exact⟨rfl,rfl⟩
def DB(M:Th->Prop)(t:Th):Prop:=M t/\∀u,M u->ltT u t=false
theorem pw(h:QS w qb M n F)(hn:0<n):∃t,DB M t/\Hid (∀W,Fr NoF w W->Calls prog 215 #[.pointer (some ⟨qb,0,none⟩)] W λe w'=>e=.returned (.tuple #[.int .i64 t.x,.bool true])/\W=w'):=by
 have h0:=h;obtain⟨a,⟨lv,mo,g,h,hF⟩,hh,hM⟩:=h;refine⟨a 0,⟨(hM (a 0)).2 ⟨0,hn,rfl⟩,λu hu=>?_⟩,λW f=>?_⟩
 .obtain⟨k,hk,rfl⟩:=(hM u).1 hu
  exact hh.root iI k hk
 .have HL:=Hd (so (h0.fr0 f))
  have hq:=h.fr0 f;have c0:=hq.c0;have lb:=hq.hd.lt;have hnb:((n:Int)==0)=false:=by simp;omega
  have hnd:(n==0)=false:=by simp;omega
  have hnp:0<(n:Int):=by omega
  obtain⟨gb,cap,rfl,h1,h2,h3,h4,i0,i1,i2⟩:=hq.el hn;rw[Nat.zero_mul]at i0;generalize(a 0).x=ix at*;clear h hq h0 hF hh hM i1 i2 f;go_enter func215,ntmps215
  go_wp2_with fail
  refine HL.out.mono ?_;rintro e w1⟨rfl,rfl⟩;go_wp2;go_returns;exact⟨rfl,rfl⟩
end
end
end Go.Proofs.YtkjhnllcphidpaaGreatDoor
