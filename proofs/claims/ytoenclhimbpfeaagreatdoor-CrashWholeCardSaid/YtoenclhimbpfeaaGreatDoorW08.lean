/- Part 8. -/
import Derived.Test.YtoenclhimbpfeaaGreatDoorW07
import Derived.Deep.DeepCutAuto
namespace Go.Proofs.YtoenclhimbpfeaaGreatDoor
set_option linter.all false
set_option maxHeartbeats 16000000
set_option maxRecDepth 100000
section
open Go.Maps Go.Proofs.Tryz Go.RowKit
section
variable{w w':World}{qb n:Nat}{a:Nat->Th}{lv:Value}{mo:Option Nat}{g:Int->Option Int}{F:Nat->Prop}
theorem EM(h:QC w qb a n lv mo g){i j:Nat}(hi:i<n)(hj:j<n):Calls prog 271 #[.pointer (some ⟨qb,0,none⟩),.int .i64 i,.int .i64 j] w λe w'=>e=.returned (.tuple #[])/\HRq qb w' (swp a i j) n (FQ qb lv mo)/\Fr (FQ qb lv mo) w w':=by
 have hn:=h.sm;have c0:=h.c0;have lb:=h.hd.lt;obtain⟨gb,cap,rfl,h1,h2,h3,h4,i0,i1,i2⟩:=h.el hi;obtain⟨gb',cap',e,_,_,_,_,j0,j1,j2⟩:=h.el hj;simp only[Value.slice.injEq,Option.some.injEq,Addr.mk.injEq]at e;obtain⟨⟨rfl,_⟩,_,rfl⟩:=e;obtain⟨k1,k2⟩:=h.n1 gb rfl;obtain⟨w1,hw1⟩:∃w1,w1=(((((w.setCell ⟨gb,i*3,none⟩ (.int .i64 (a j).x)).setCell ⟨gb,i*3+1,none⟩ (.int .i64 (a j).a)).setCell ⟨gb,i*3+2,none⟩ (.int .i64 (a j).b)).setCell ⟨gb,j*3,none⟩ (.int .i64 (a i).x)).setCell ⟨gb,j*3+1,none⟩ (.int .i64 (a i).a)).setCell ⟨gb,j*3+2,none⟩ (.int .i64 (a i).b):=⟨_,rfl⟩;obtain⟨s1,fr,mb,hmo,hm1,c0',c1',okx,oky,K⟩:=h.swap hi hj hw1;have k3:=h.n2 mb hmo;have k2':¬mb=gb:=λq=>k2 (by rw[hmo,q])
 have HK:=K;have lw1:=fr.size
 have HS:Hid (∀W,Fr (λk=>k=mb) w1 W->W.cell? ⟨qb,0,none⟩=some (.slice (some ⟨gb,0,none⟩) n cap)/\W.cell? ⟨qb,1,none⟩=some (.map (some mb))/\W.cell? ⟨gb,i*3,none⟩=some (.int .i64 (a j).x)/\W.cell? ⟨gb,j*3,none⟩=some (.int .i64 (a i).x)):=by
  intro W f;obtain⟨g2,cap2,e2,_,_,l2,_,ce⟩:=s1.at (by omega);simp only[Value.slice.injEq,Option.some.injEq,Addr.mk.injEq]at e2;obtain⟨⟨rfl,_⟩,_,rfl⟩:=e2;refine⟨?_,?_,?_,?_⟩
  .rw[f.cell (p:=⟨qb,0,none⟩) (by show qb<_;omega) (λq=>k3 q.symm)];exact c0'
  .rw[f.cell (p:=⟨qb,1,none⟩) (by show qb<_;omega) (λq=>k3 q.symm)];exact c1'
  .rw[f.cell (p:=⟨gb,i*3,none⟩) l2 (λq=>k2' q.symm),ce _ (by omega),pN]
   congr 2;unfold swp;rw[if_pos rfl]
  .rw[f.cell (p:=⟨gb,j*3,none⟩) l2 (λq=>k2' q.symm),ce _ (by omega),pN]
   congr 2;unfold swp;split
   .rename_i q;rw[q]
   .rw[if_pos rfl]
 have wfi:(Lit.int .i64 (i:Int)).wf=true:=WalkArith.wf_i64 ⟨by omega,by omega⟩;have wfj:(Lit.int .i64 (j:Int)).wf=true:=WalkArith.wf_i64 ⟨by omega,by omega⟩
 have HE:Hid (∀W,Fr NoF w1 W->∃(v0:Value) (st:Nat) (w2 w3:World) (v1:Value) (st':Nat) (w4 w5:World),(Instr.mapEntry 185 (.map (some mb)) (.int .i64 (a j).x)).run prog W=.ok (.tuple #[v0,.int .i64 (st:Int)]) w2/\(Instr.entryStore 185 (.map (some mb)) (.int .i64 (st:Int)) (.int .i64 (i:Int))).run prog w2=.ok () w3/\
   (Instr.mapEntry 185 (.map (some mb)) (.int .i64 (a i).x)).run prog w3=.ok (.tuple #[v1,.int .i64 (st':Int)]) w4/\(Instr.entryStore 185 (.map (some mb)) (.int .i64 (st':Int)) (.int .i64 (j:Int))).run prog w4=.ok () w5/\
   Hid (Fr (λk=>k=mb) w1 w2/\Fr (λk=>k=mb) w1 w3/\Fr (λk=>k=mb) w1 w4/\Fr (λk=>k=mb) w1 w5/\MpN prog 3 3 .i64 .i64 w5 mb n (bX (bX g (a j).x (some (i:Int))) (a i).x (some (j:Int))))):=by
  intro W f;have fm:Fr (λk=>k=mb) w1 W:=f.mono (λ_ q=>q.elim);obtain⟨v0,st,w2,w3,e1,e2,f2,m3,f3⟩:=(hm1.fr f (λq=>q)).entry MIq hn (x:=(a j).x) (y:=(i:Int)) oky wfi;have hg1:(g (a j).x).isSome=true:=by rw[(h.pl (a j).x (j:Int)).2 ⟨j,rfl,hj,rfl⟩];rfl
  rw[if_pos hg1]at m3;obtain⟨v1,st',w4,w5,e3,e4,f4,m5,f5⟩:=m3.entry MIq hn (x:=(a i).x) (y:=(j:Int)) okx wfj
  have hg2:(bX g (a j).x (some (i:Int)) (a i).x).isSome=true:=by
   by_cases q:(a i).x=(a j).x
   .rw[q,ba];rfl
   .rw[aE _ _ q,(h.pl (a i).x (i:Int)).2 ⟨i,rfl,hi,rfl⟩];rfl
  rw[if_pos hg2]at m5;have g3:=fm.trans f3 (λi q=>.inl q);exact⟨v0,st,w2,w3,v1,st',w4,w5,e1,e2,e3,e4,fm.trans f2 (λi q=>.inl q),g3,g3.trans f4 (λi q=>.inl q),g3.trans f5 (λi q=>.inl q),m5⟩
 have HW1:=Hd hw1;clear s1 fr hm1 c0' c1' okx oky K wfi wfj h k2 hw1;by_cases hij:i=j
 .subst hij
  clear j0 j1 j2;generalize(a i).x=ix at*;generalize(a i).a=ia at*;generalize(a i).b=ib at*;go_enter func271,ntmps271;go_wp2
  go_region
  go_wp2;rw[<-HW1.out];obtain⟨v0,st,w2,w3,v1,st',w4,w5,e1,e2,e3,e4,HX⟩:=HE.out w1.drew.drew (((Fr.refl NoF w1).drew).drew)
  go_region_held3(λw'=>w'.cell? ⟨qb,0,none⟩=some (.slice (some ⟨gb,0,none⟩) n cap)/\w'.cell? ⟨qb,1,none⟩=some (.map (some mb))/\w'.cell? ⟨gb,i*3,none⟩=some (.int .i64 ix)/\w'.cell? ⟨gb,i*3,none⟩=some (.int .i64 ix))
   (exact HS.out _ (by first|exact HX.out.1|exact HX.out.2.1|exact HX.out.2.2.1|exact HX.out.2.2.2.1|exact((Fr.refl _ w1).drew).drew))
   (fail)
  go_wp2;go_returns;exact⟨rfl,HK.out w5 HX.out.2.2.2.2 HX.out.2.2.2.1⟩
 .have hji:¬j=i:=λe=>hij e.symm
  generalize(a i).x=ix at*;generalize(a i).a=ia at*;generalize(a i).b=ib at*;generalize(a j).x=jx at*;generalize(a j).a=ja at*;generalize(a j).b=jb at*;go_enter func271,ntmps271;go_wp2
  go_region
  go_wp2;rw[<-HW1.out];obtain⟨v0,st,w2,w3,v1,st',w4,w5,e1,e2,e3,e4,HX⟩:=HE.out w1.drew.drew (((Fr.refl NoF w1).drew).drew)
  go_region_held3(λw'=>w'.cell? ⟨qb,0,none⟩=some (.slice (some ⟨gb,0,none⟩) n cap)/\w'.cell? ⟨qb,1,none⟩=some (.map (some mb))/\w'.cell? ⟨gb,i*3,none⟩=some (.int .i64 jx)/\w'.cell? ⟨gb,j*3,none⟩=some (.int .i64 ix))
   (exact HS.out _ (by first|exact HX.out.1|exact HX.out.2.1|exact HX.out.2.2.1|exact HX.out.2.2.2.1|exact((Fr.refl _ w1).drew).drew))
   (fail)
  go_wp2;go_returns;exact⟨rfl,HK.out w5 HX.out.2.2.2.2 HX.out.2.2.2.1⟩
end
def nP(t:Th):Value:=.iface 277 (thV t)
def okT(a:Nat->Th)(n:Nat)(t:Th):Prop:=n<900000/\vS t/\∀k,k<n->¬(a k).x=t.x
theorem EIt:EI prog 184 277 3 24:=EI.mk' (z:=.agg #[.int .i64 0,.int .i64 0,.int .i64 0]) underlying184 (by kernel_rfl) rfl (by decide)
section
variable{w w':World}{qb n:Nat}{a:Nat->Th}{lv:Value}{mo:Option Nat}{g:Int->Option Int}{F:Nat->Prop}
theorem QC.grown{mb:Nat}(h:QC w qb a n lv (some mb) g){t:Th}(ht:okT a n t){wB w2:World}{lv':Value}(f0:Fr (λi=>i=mb) w wB)(hm:MpN prog 3 3 .i64 .i64 wB mb (n+1) (bX g t.x (some (n:Int))))
  (hs:SlF w2 277 3 lv' (n+1) (upd (upd (upd (thF a) (n*3) (.int .i64 t.x)) (n*3+1) (.int .i64 t.a)) (n*3+2) (.int .i64 t.b)))(f:Fr (λb=>lv.ownBlock=some b) wB w2)(ho:∀b,lv'.ownBlock=some b->lv.ownBlock=some b\/wB.heap.size<=b):
  w2.cell? ⟨qb,0,none⟩=some lv/\w2.frozen? ⟨qb,0,none⟩=false/\qb<w2.heap.size/\
  Hid (HRq qb (w2.setCell ⟨qb,0,none⟩ lv') (upd a n t) (n+1) (FQ qb lv' (some mb))/\Fr (FQ qb lv (some mb)) w (w2.setCell ⟨qb,0,none⟩ lv')/\∀i,FQ qb lv' (some mb) i->FQ qb lv (some mb) i\/w.heap.size<=i):=by
 obtain⟨hn,hok,hne⟩:=ht;have k3:=h.n2 mb rfl;have hb1:=(h.hd.fr f0 (λq=>k3 q.symm)).fr f (λq=>(h.n1 qb q).1 rfl);rw[jW]at hs;have hz:=f0.size;have hz2:=f.size
 have n1':∀b,lv'.ownBlock=some b->¬b=qb/\¬(some mb)=some b:=by
  intro b q;rcases ho b q with q|q
  .exact h.n1 b q
  .refine⟨?_,?_⟩
   .have:=h.hd.lt;omega
   .rintro⟨rfl⟩
    have:=hm.lt;omega
 have fs:Fr (λi=>i=qb) w2 (w2.setCell ⟨qb,0,none⟩ lv'):=(Fr.refl (λi=>i=qb) w2).setCell (p:=⟨qb,0,none⟩) (.inl rfl) _
 have hgn:g t.x=none:=by
  cases e:g t.x with
  |none=>rfl
  |some k=>
   obtain⟨j,_,hj,q⟩:=(h.pl t.x k).1 e;exact(hne j hj q).elim
 refine⟨hb1.cell (i:=0) (by omega),hb1.frozen 0,hb1.lt,⟨lv',some mb,_,⟨?_,hs.fr fs (λb q e=>(n1' b q).1 e),(MpN.fr hm f (λq=>(h.n1 mb q).2 rfl)).fr fs (λq=>k3 q),λx k=>?_,λk hk=>?_,n1',h.n2,by omega⟩,λi=>Iff.rfl⟩,((f0.mono (λi q=>.inr (.inr (by rw[q])))).trans f (λi q=>.inl (.inr (.inl q)))).trans fs (λi q=>.inl (.inl q)),?_⟩
 .have h1:=hb1.set 0 lv'
  refine h1.congr (λi hi=>?_)
  match i,hi with
  |0,_=>rfl
  |1,_=>rfl
 .by_cases e:x=t.x
  .subst e
   rw[ba];constructor
   .rintro⟨rfl⟩
    exact⟨n,rfl,by omega,by rw[upd_same]⟩
   .rintro⟨j,rfl,hj,q⟩
    by_cases ej:j=n
    .rw[ej]
    .rw[aa _ _ ej]at q
     exact(hne j (by omega) q).elim
  .rw[aE _ _ e,h.pl x k]
   constructor
   .rintro⟨j,rfl,hj,q⟩
    exact⟨j,rfl,by omega,by rw[aa _ _ (by omega)];exact q⟩
   .rintro⟨j,rfl,hj,q⟩
    by_cases ej:j=n
    .subst ej;rw[upd_same]at q;exact(e q.symm).elim
    .rw[aa _ _ ej]at q
     exact⟨j,rfl,by omega,q⟩
 .by_cases ek:k=n
  .subst ek;rw[upd_same];exact hok
  .rw[aa _ _ ek];exact h.ok k (by omega)
 .rintro i(q|q|q)
  .exact .inl (.inl q)
  .rcases ho i q with q|q
   .exact .inl (.inr (.inl q))
   .exact .inr (by omega)
  .exact .inl (.inr (.inr q))
theorem Em(h:QC w qb a n lv mo g){t:Th}(ht:okT a n t):Calls prog 270 #[.pointer (some ⟨qb,0,none⟩),nP t] w λe w'=>e=.returned (.tuple #[])/\∃F',HRq qb w' (upd a n t) (n+1) F'/\Fr (FQ qb lv mo) w w'/\∀i,F' i->FQ qb lv mo i\/w.heap.size<=i:=by
 obtain⟨tx,ta,tb⟩:=t;unfold nP thV;have hta:∀W:World,(Instr.typeAssert (.iface 277 (.agg #[.int .i64 tx,.int .i64 ta,.int .i64 tb])) 20 277 false).run prog W=.ok (.agg #[.int .i64 tx,.int .i64 ta,.int .i64 tb]) W:=λW=>by kernel_rfl
 have hn:=ht.1;have HOK:=Hd ht;have c0:=h.c0;have c1:=h.c1;have f1:=h.hd.frozen 1;have lb:=h.hd.lt;obtain⟨va,vc,rfl,v1,v2⟩:=h.li.shape;unfold maxLen at v2
 cases mo
 case' some mb=>
  obtain⟨w1,rfl⟩:∃w1,w1=w:=⟨_,rfl⟩;have H1:=Hd h;obtain⟨gg,rfl⟩:∃x,x=g:=⟨_,rfl⟩;have HFIN:=Hd (λ(w'':World) (F':Nat->Prop) (r2:Fr (FQ qb (.slice va n vc) (some mb)) w1 w'') (r3:∀i,F' i->FQ qb (.slice va n vc) (some mb) i\/w1.heap.size<=i)=>And.intro r2 r3);have heq:∀W:World,(binOp .eql 185 (.map (some mb)) (.map none)).run prog W=.ok (.bool false) W:=λW=>by first|rfl|kernel_rfl
  clear h ht;go_enter func270,ntmps270;go_wp2
 case' none=>
  have hn0:n=0:=h.mp.1;have hmm:=@run_makeMap prog
  have H1':Hid (∀w1,w1=(w.setCell ⟨qb,1,none⟩ (.map (some w.heap.size))).alloc (.map #[] 0)->∀mb,mb=w.heap.size->∃g',QC w1 qb a n (.slice va n vc) (some mb) g'/\Fr (λi=>i=qb) w w1):=by
   subst hn0;rintro w1 rfl mb rfl;have fs:Fr (λi=>i=qb) w (w.setCell ⟨qb,1,none⟩ (.map (some w.heap.size))):=(Fr.refl (λi=>i=qb) _).setCell (p:=⟨qb,1,none⟩) (.inl rfl) _;have fa:Fr NoF (w.setCell ⟨qb,1,none⟩ (.map (some w.heap.size))) ((w.setCell ⟨qb,1,none⟩ (.map (some w.heap.size))).alloc (.map #[] 0)):=(Fr.refl NoF _).alloc _;have hl:=h.hd.lt;have hm:=MpN.made prog 3 3 .i64 .i64 (w.setCell ⟨qb,1,none⟩ (.map (some w.heap.size)));rw[show(w.setCell ⟨qb,1,none⟩ (.map (some w.heap.size))).heap.size=w.heap.size from by simp]at hm;refine⟨λ_=>none,⟨((h.hd.set 1 _).fr fa (λq=>q)).congr (λi hi=>?_),(h.li.fr fs (λb q e=>(h.n1 b q).1 e)).fr fa (λ_ _ q=>q),hm,λx k=>⟨λq=>(by cases q),λ⟨j,_,q,_⟩=>(by omega)⟩,λk q=>(by omega),λb q=>⟨(h.n1 b q).1,?_⟩,?_,by omega⟩,fs.trans fa (λ_ q=>q.elim)⟩
   .match i,hi with
    |0,_=>rfl
    |1,_=>rfl
   .rintro⟨rfl⟩
    have:=h.li.lt _ q;omega
   .rintro b⟨rfl⟩
    omega
  have heq:∀W:World,(binOp .eql 185 (.map none) (.map none)).run prog W=.ok (.bool true) W:=λW=>by first|rfl|kernel_rfl
  clear h ht hn0;go_enter func270,ntmps270
  go_upto_region 2 with fail
  obtain⟨w1,hw1⟩:∃w1,w1=(w.setCell ⟨qb,1,none⟩ (.map (some w.heap.size))).alloc (.map #[] 0):=⟨_,rfl⟩;rw[<-hw1];obtain⟨mb,hmb⟩:∃mb,mb=w.heap.size:=⟨_,rfl⟩;rw[<-hmb];obtain⟨gg,hq,fq⟩:=H1'.out w1 hw1 mb hmb;have H1:=Hd hq
  have HFIN:Hid (∀(w'':World) (F':Nat->Prop),Fr (FQ qb (.slice va n vc) (some mb)) w1 w''->(∀i,F' i->FQ qb (.slice va n vc) (some mb) i\/w1.heap.size<=i)->Fr (FQ qb (.slice va n vc) none) w w''/\∀i,F' i->FQ qb (.slice va n vc) none i\/w.heap.size<=i):=by
   intro w'' F' r2 r3;have hz:=fq.size
   have key:∀i,FQ qb (.slice va n vc) (some mb) i->FQ qb (.slice va n vc) none i\/w.heap.size<=i:=by
    rintro i(q|q|q)
    .exact .inl (.inl q)
    .exact .inl (.inr (.inl q))
    .right;have:=Option.some.inj q;omega
   exact⟨(fq.mono (λi q=>.inl q)).trans r2 key,λi q=>(r3 i q).elim (key i) (λq=>.inr (by omega))⟩
  clear hq fq hw1 H1' hmm c0 c1 f1 lb;clear hmb;go_wp2
 all_goals
  have HSA:Hid (∀W,Fr NoF (w1.alloc (.cells #[.int .i64 tx,.int .i64 ta,.int .i64 tb] 277)) W->W.cell? ⟨qb,0,none⟩=some (.slice va n vc)/\W.cell? ⟨qb,1,none⟩=some (.map (some mb))/\W.cell? ⟨w1.heap.size,0,none⟩=some (.int .i64 tx)):=by
   intro W f;have fa:Fr NoF w1 W:=((Fr.refl NoF w1).alloc _).trans f (λ_ q=>q.elim)
   have b1:Blk (w1.alloc (.cells #[.int .i64 tx,.int .i64 ta,.int .i64 tb] 277)) w1.heap.size 3 (λi=>if i=0 then .int .i64 tx else if i=1 then .int .i64 ta else .int .i64 tb):=Blk.new w1 _ 277 3 _ _ rfl rfl (λi hi=>by
    match i,hi with
    |0,_=>rfl
    |1,_=>rfl
    |2,_=>rfl)
   exact⟨(H1.out.fr0 fa).c0,(H1.out.fr0 fa).c1,(b1.fr f (λq=>q)).cell (i:=0) (by omega)⟩
  have fA:Fr NoF w1 ((w1.alloc (.cells #[.int .i64 tx,.int .i64 ta,.int .i64 tb] 277)).drew):=((Fr.refl NoF w1).alloc _).drew;obtain⟨wB,hrun,hmB,fB⟩:=(MpN.fr H1.out.mp fA (λq=>q)).put_run MIq (by omega) (x:=tx) (y:=(n:Int)) HOK.out.2.1.1 (WalkArith.wf_i64 ⟨by omega,by omega⟩)
  have HMB:Hid (MpN prog 3 3 .i64 .i64 wB mb (n+1) (bX gg tx (some (n:Int)))):=by
   have hgn:gg tx=none:=by
    cases e:gg tx with
    |none=>rfl
    |some k=>
     obtain⟨j,_,hj,q⟩:=(H1.out.pl tx k).1 e;exact(HOK.out.2.2 j hj q).elim
   rw[hgn]at hmB;exact hmB
  have HFB:=Hd fB;have HFA:=Hd fA
  have HSB:Hid (∀W,Fr NoF wB W->W.cell? ⟨qb,0,none⟩=some (.slice va n vc)/\W.cell? ⟨qb,1,none⟩=some (.map (some mb))/\W.cell? ⟨w1.heap.size,0,none⟩=some (.int .i64 tx)/\W.cell? ⟨w1.heap.size,1,none⟩=some (.int .i64 ta)/\W.cell? ⟨w1.heap.size,2,none⟩=some (.int .i64 tb)):=by
   intro W f;have k3:=H1.out.n2 mb rfl;have hml:=MpN.lt H1.out.mp
   have b1:Blk (w1.alloc (.cells #[.int .i64 tx,.int .i64 ta,.int .i64 tb] 277)) w1.heap.size 3 (λi=>if i=0 then .int .i64 tx else if i=1 then .int .i64 ta else .int .i64 tb):=Blk.new w1 _ 277 3 _ _ rfl rfl (λi hi=>by
    match i,hi with
    |0,_=>rfl
    |1,_=>rfl
    |2,_=>rfl)
   have b2:=((b1.drew).fr HFB.out (λq=>by omega)).fr f (λq=>q);have hd2:=((H1.out.hd.fr HFA.out (λq=>q)).fr HFB.out (λq=>k3 q.symm)).fr f (λq=>q);exact⟨hd2.cell (i:=0) (by omega),hd2.cell (i:=1) (by omega),b2.cell (i:=0) (by omega),b2.cell (i:=1) (by omega),b2.cell (i:=2) (by omega)⟩
  clear hmB fB fA
  go_region_held3(λw'=>w'.cell? ⟨qb,0,none⟩=some (.slice va n vc)/\w'.cell? ⟨qb,1,none⟩=some (.map (some mb))/\w'.cell? ⟨w1.heap.size,0,none⟩=some (.int .i64 tx))
   (first|(obtain⟨z0,z1,z2,_⟩:=HSB.out _ (Fr.refl NoF wB);exact⟨z0,z1,z2⟩)|exact HSA.out _ (by repeat(first|exact Fr.refl NoF _|apply Fr.drew|apply Fr.drewN|apply Fr.alloc)))
   (fail)
  clear hrun;obtain⟨z0,z1,z2,z3,z4⟩:=HSB.out wB (Fr.refl NoF wB);have lbB:qb<wB.heap.size:=by have:=HFA.out.size;have:=HFB.out.size;have:=H1.out.hd.lt;omega
  have ltB:w1.heap.size<wB.heap.size:=by have:=HFB.out.size;simp at this;omega
  have HLI:Hid (SlF wB 277 3 (.slice va n vc) n (thF a)):=(H1.out.li.fr HFA.out (λ_ _ q=>q)).fr HFB.out (λb q e=>by rw[e]at q;exact(H1.out.n1 mb q).2 rfl)
  have K:Hid (∀pv' w2 W,Fr NoF wB W->SlF w2 277 3 pv' (n+1) (upd (upd (upd (thF a) (n*3) (.int .i64 tx)) (n*3+1) (.int .i64 ta)) (n*3+2) (.int .i64 tb))->Fr (λb=>(Value.slice va n vc).ownBlock=some b) W w2->(∀b,pv'.ownBlock=some b->(Value.slice va n vc).ownBlock=some b\/W.heap.size<=b)->
    w2.cell? ⟨qb,0,none⟩=some (.slice va n vc)/\w2.frozen? ⟨qb,0,none⟩=false/\qb<w2.heap.size/\
    Hid (HRq qb (w2.setCell ⟨qb,0,none⟩ pv') (upd a n ⟨tx,ta,tb⟩) (n+1) (FQ qb pv' (some mb))/\Fr (FQ qb (.slice va n vc) (some mb)) w1 (w2.setCell ⟨qb,0,none⟩ pv')/\∀i,FQ qb pv' (some mb) i->FQ qb (.slice va n vc) (some mb) i\/w1.heap.size<=i)):=by
   intro pv' w2 W fW hs f ho;have fz:=fW.size;exact H1.out.grown HOK.out ((HFA.out.mono (λ_ q=>q.elim)).trans HFB.out (λi q=>.inl q)) HMB.out hs ((fW.mono (λ_ q=>q.elim)).trans f (λi q=>.inl q)) (λb q=>(ho b q).imp id (λq=>by omega))
  go_wp2
  go_region_law(first
   |(refine eU (base:=0) EIt rfl (.tmp 31) (.tmp 33) rfl (by rfl) (by rfl) (Nat.zero_le _) (ak HLI.out (by repeat(first|exact Fr.refl NoF _|apply Fr.drew|apply Fr.drewN|apply Fr.alloc)) (λ_ _ q=>q)) (jY (size:=3) (n:=1) (cs:=#[.int .i64 tx,.int .i64 ta,.int .i64 tb]) (by(try rw[heap_drew]);refine heap_alloc_new _ _ _ ?_;simp) (by rfl) (by unfold maxLen;omega) (by simp[Value.oneCell'])) (by unfold maxLen;omega) (by omega) ?_;intro v' w2 hown' hf' hob';obtain⟨a8,c8,rfl,_,_⟩:=(SlF.snoc3 hown').shape;obtain⟨y0,y1,y2,KK⟩:=K.out _ w2 _ (by repeat(first|exact Fr.refl NoF _|apply Fr.drew|apply Fr.drewN|apply Fr.alloc)) (SlF.snoc3 hown') hf' hob';clear hown' hf' hob'))
  all_goals
   go_wp2;go_returns;obtain⟨r1,r2,r3⟩:=KK.out;exact⟨rfl,_,r1,HFIN.out _ _ r2 r3⟩
theorem QC.cut{gb cap mb:Nat}(h:QC w qb a (n+1) (.slice (some ⟨gb,0,none⟩) (n+1) cap) (some mb) g){w1 w2:World}(f1:Fr (λi=>i=qb) w w1)(h1:w1.heap[qb]?=(w.setCell ⟨qb,0,none⟩ (.slice (some ⟨gb,0,none⟩) n cap)).heap[qb]?)(f2:Fr (λi=>i=mb) w1 w2)(hm:MpN prog 3 3 .i64 .i64 w2 mb n (bX g (a n).x none)):
  HRq qb w2 a n (FQ qb (.slice (some ⟨gb,0,none⟩) (n+1) cap) (some mb))/\Fr (FQ qb (.slice (some ⟨gb,0,none⟩) (n+1) cap) (some mb)) w w2:=by
 have k3:=h.n2 mb rfl;obtain⟨k1,k2⟩:=h.n1 gb rfl;have k2':¬gb=mb:=λq=>k2 (by rw[q])
 have hb:=((h.hd.set 0 (.slice (some ⟨gb,0,none⟩) n cap)).ofHeap h1).fr f2 (λq=>k3 q.symm);refine⟨⟨.slice (some ⟨gb,0,none⟩) n cap,some mb,_,⟨hb.congr (λi hi=>?_),((h.li.cut (m:=n) (by omega)).fr f1 (λb q e=>k1 (by rw[e]at q;have:=Option.some.inj q;omega))).fr f2 (λb q e=>k2' (by rw[e]at q;have:=Option.some.inj q;omega)),hm,λx k=>?_,λk hk=>h.ok k (by omega),λb q=>h.n1 b q,h.n2,by have:=h.sm;omega⟩,λi=>Iff.rfl⟩,(f1.mono (λi q=>.inl q)).trans f2 (λi q=>.inl (.inr (.inr (by rw[q]))))⟩
 .match i,hi with
  |0,_=>rfl
  |1,_=>rfl
 .have hij:=h.inj
  by_cases e:x=(a n).x
  .subst e
   rw[ba];constructor
   .intro q;cases q
   .rintro⟨j,rfl,hj,q⟩
    have:=hij j n (by omega) (by omega) q;omega
  .rw[aE _ _ e,h.pl x k]
   constructor
   .rintro⟨j,rfl,hj,q⟩
    refine⟨j,rfl,?_,q⟩;have:¬j=n:=λe2=>e (by rw[<-q,e2])
    omega
   .rintro⟨j,rfl,hj,q⟩
    exact⟨j,rfl,by omega,q⟩
theorem Gm(h:QC w qb a (n+1) lv mo g):Calls prog 269 #[.pointer (some ⟨qb,0,none⟩)] w λe w'=>e=.returned (nP (a n))/\HRq qb w' a n (FQ qb lv mo)/\Fr (FQ qb lv mo) w w':=by
 have hn:=h.sm;have c0:=h.c0;have c1:=h.c1;have f0:=h.hd.frozen 0;have lb:=h.hd.lt;obtain⟨gb,cap,rfl,h1,h2,h3,h4,i0,i1,i2⟩:=h.el (i:=n) (by omega)
 cases mo with
 |none=>have:=h.mp.1;omega
 |some mb=>
  obtain⟨k1,k2⟩:=h.n1 gb rfl;have k3:=h.n2 mb rfl;have hml:=MpN.lt h.mp;have HH:=Hd h;have okn:=(h.ok n (by omega)).1;have OKN:Hid (i64 (a n).x):=okn;have HEN:Hid (nP (a n)=.iface 277 (.agg #[.int .i64 (a n).x,.int .i64 (a n).a,.int .i64 (a n).b])):=rfl;have e1:((n+1:Nat):Int)-1=(n:Int):=by omega
  have HKF:Hid (∀w1 w2,w1=((w.alloc (.cells #[.int .i64 (a n).x,.int .i64 (a n).a,.int .i64 (a n).b] 277)).setCell ⟨qb,0,none⟩ (.slice (some ⟨gb,0,none⟩) n cap)).drew\/w1=((w.setCell ⟨qb,0,none⟩ (.slice (some ⟨gb,0,none⟩) n cap)).alloc (.cells #[.int .i64 (a n).x,.int .i64 (a n).a,.int .i64 (a n).b] 277)).drew->MpN prog 3 3 .i64 .i64 w1 mb (n+1) g/\(MpN prog 3 3 .i64 .i64 w2 mb (if(g (a n).x).isSome then n+1-1 else n+1) (bX g (a n).x none)->Fr (λi=>i=mb) w1 w2->HRq qb w2 a n (FQ qb (.slice (some ⟨gb,0,none⟩) (n+1) cap) (some mb))/\Fr (FQ qb (.slice (some ⟨gb,0,none⟩) (n+1) cap) (some mb)) w w2)):=by
   intro w1 w2 hw;have hz:qb<w.heap.size:=lb
   have fq:Fr (λi=>i=qb) w w1:=by
    rcases hw with rfl|rfl
    .exact(((Fr.refl (λi=>i=qb) w).alloc _).setCell (p:=⟨qb,0,none⟩) (.inl rfl) _).drew
    .exact(((Fr.refl (λi=>i=qb) w).setCell (p:=⟨qb,0,none⟩) (.inl rfl) _).alloc _).drew
   have hq:w1.heap[qb]?=(w.setCell ⟨qb,0,none⟩ (.slice (some ⟨gb,0,none⟩) n cap)).heap[qb]?:=by
    rcases hw with rfl|rfl
    .show((w.alloc _).setCell ⟨qb,0,none⟩ _).heap[qb]?=_
     simp only[World.setCell,Array.getElem?_modify,if_true];rw[Below.heap_alloc w _ qb hz]
    .show((w.setCell ⟨qb,0,none⟩ _).alloc _).heap[qb]?=_
     rw[Below.heap_alloc _ _ qb (by simpa using hz)]
   refine⟨MpN.fr HH.out.mp fq (λq=>k3 q),λhm f2=>HH.out.cut fq hq f2 ?_⟩;have hg:(g (a n).x).isSome=true:=by rw[(HH.out.pl (a n).x (n:Int)).2 ⟨n,rfl,by omega,rfl⟩];rfl
   rw[if_pos hg,Nat.add_sub_cancel]at hm;exact hm
  rw[HEN.out];clear h okn HEN;generalize hax:(a n).x=ix at*;generalize(a n).a=ia at*;generalize(a n).b=ib at*;have HAX:=Hd hax;clear hax;go_enter func269,ntmps269;go_wp2
  have hW:Hid (∀W,W=((w.setCell ⟨qb,0,none⟩ (.slice (some ⟨gb,0,none⟩) n cap)).alloc (.cells #[.int .i64 ix,.int .i64 ia,.int .i64 ib] 277)).drew->∀W',Fr (λi=>i=mb) W W'->W'.cell? ⟨qb,1,none⟩=some (.map (some mb))/\W'.cell? ⟨w.heap.size,0,none⟩=some (.int .i64 ix)/\W'.cell? ⟨w.heap.size,1,none⟩=some (.int .i64 ia)/\W'.cell? ⟨w.heap.size,2,none⟩=some (.int .i64 ib)):=by
   rintro W rfl W' f
   have b1:Blk ((w.setCell ⟨qb,0,none⟩ (.slice (some ⟨gb,0,none⟩) n cap)).alloc (.cells #[.int .i64 ix,.int .i64 ia,.int .i64 ib] 277)) w.heap.size 3 (λi=>if i=0 then .int .i64 ix else if i=1 then .int .i64 ia else .int .i64 ib):=Blk.new _ _ 277 3 _ _ (by simp) rfl (λi hi=>by
    match i,hi with
    |0,_=>rfl
    |1,_=>rfl
    |2,_=>rfl)
   have b2:=b1.drew.fr f (λq=>by omega);have hb:=((((HH.out.hd.set 0 (.slice (some ⟨gb,0,none⟩) n cap)).alloc (.cells #[.int .i64 ix,.int .i64 ia,.int .i64 ib] 277)).drew).fr f (λq=>k3 q.symm)).cell (i:=1) (by omega);exact⟨hb,b2.cell (i:=0) (by omega),b2.cell (i:=1) (by omega),b2.cell (i:=2) (by omega)⟩
  have lt0:w.heap.size<(((w.setCell ⟨qb,0,none⟩ (.slice (some ⟨gb,0,none⟩) n cap)).alloc (.cells #[.int .i64 ix,.int .i64 ia,.int .i64 ib] 277)).drew).heap.size:=by simp
  go_region_held3(λw'=>w'.cell? ⟨qb,1,none⟩=some (.map (some mb))/\w'.cell? ⟨w.heap.size,0,none⟩=some (.int .i64 ix)/\w'.cell? ⟨w.heap.size,1,none⟩=some (.int .i64 ia)/\w'.cell? ⟨w.heap.size,2,none⟩=some (.int .i64 ib))
   (first|exact HWF.out|exact hW.out _ rfl _ (Fr.refl _ _))
   (first
    |(refine GX MIq (HKF.out _ w (.inr rfl)).1 rfl (.tmp 30) (.tmp 32) rfl (by rfl) (by rfl) OKN.out ?_;intro w9 hm9 f9;have HWF:=Hd (hW.out _ rfl w9 f9);have HEND:=Hd ((HKF.out _ w9 (.inr rfl)).2 hm9 f9);have lt9:w.heap.size<w9.heap.size:=Nat.lt_of_lt_of_le lt0 f9.size;clear hm9 f9))
  all_goals
   obtain⟨y0,y1,y2,y3⟩:=HWF.out;go_wp2;go_returns;exact⟨rfl,HEND.out⟩
theorem jC(qb:Nat):iO 270 203 268 271 270 269 ltT (HRq qb) ⟨qb,0,none⟩ nP okT where
 own:=⟨cu func203 (by kernel_rfl) rfl,cu func268 (by kernel_rfl) rfl,cu func271 (by kernel_rfl) rfl,cu func270 (by kernel_rfl) rfl,cu func269 (by kernel_rfl) rfl⟩
 fr:=by
  rintro w w' a n F G⟨lv,mo,g,h,hF⟩f hG;exact⟨lv,mo,g,h.fr f (λi q=>hG i ((hF i).2 q)),hF⟩
 bd:=by
  rintro w a n F⟨lv,mo,g,h,hF⟩i hi;exact h.lt i ((hF i).1 hi)
 small:=by
  rintro w a n F⟨lv,mo,g,h,hF⟩;exact h.sm
 len:=by
  rintro w a n F⟨lv,mo,g,h,hF⟩;obtain⟨ti,hti,hm⟩:=bh (P:=prog) (t:=270) (name:= "Len") (f:=203) (b:=true) (by kernel_rfl);exact⟨_,bG hti hm underlying270,(q_len h).mono λe w' ⟨he,hw⟩=>⟨he,hw▸Fr.refl _ _⟩⟩
 less:=by
  rintro w a n F i j⟨lv,mo,g,h,hF⟩hi hj;obtain⟨ti,hti,hm⟩:=bh (P:=prog) (t:=270) (name:= "Less") (f:=268) (b:=true) (by kernel_rfl);exact⟨_,bG hti hm underlying270,Fi h hi hj⟩
 swap:=by
  rintro w a n F i j⟨lv,mo,g,h,hF⟩hi hj;obtain⟨ti,hti,hm⟩:=bh (P:=prog) (t:=270) (name:= "Swap") (f:=271) (b:=true) (by kernel_rfl);refine⟨_,bG hti hm underlying270,(EM h hi hj).mono λe w' ⟨he,⟨lv',mo',g',h',hF'⟩,hf⟩=>⟨he,⟨lv',mo',g',h',λi=>(hF i).trans (hF' i)⟩,hf.mono (λi q=>(hF i).2 q)⟩⟩
 push:=by
  rintro w a n F t⟨lv,mo,g,h,hF⟩ht;obtain⟨ti,hti,hm⟩:=bh (P:=prog) (t:=270) (name:= "Push") (f:=270) (b:=true) (by kernel_rfl);refine⟨_,bG hti hm underlying270,(Em h ht).mono λe w' ⟨he,F',h',hf,hF'⟩=>⟨he,F',h',hf.mono (λi q=>(hF i).2 q),λi q=>(hF' i q).imp (λq=>(hF i).2 q) id⟩⟩
 pop:=by
  rintro w a n F⟨lv,mo,g,h,hF⟩;obtain⟨ti,hti,hm⟩:=bh (P:=prog) (t:=270) (name:= "Pop") (f:=269) (b:=true) (by kernel_rfl);refine⟨_,bG hti hm underlying270,(Gm h).mono λe w' ⟨he,⟨lv',mo',g',h',hF'⟩,hf⟩=>⟨he,⟨lv',mo',g',h',λi=>(hF i).trans (hF' i)⟩,hf.mono (λi q=>(hF i).2 q)⟩⟩
end
theorem iI:Ord ltT:=⟨λx y h=>by rw[vA]at h;rw[om];omega,λx y z h1 h2=>by rw[om]at*;omega⟩
def QS(w:World)(qb:Nat)(M:Th->Prop)(n:Nat)(F:Nat->Prop):Prop:=∃a,HRq qb w a n F/\bt ltT a n/\∀t,M t↔∃k,k<n/\a k=t
section
variable{w w':World}{qb n:Nat}{a:Nat->Th}{lv:Value}{mo:Option Nat}{g:Int->Option Int}{F:Nat->Prop}{M:Th->Prop}
theorem QS.fr(h:QS w qb M n F){G:Nat->Prop}(f:Fr G w w')(hG:∀i,F i->¬G i):QS w' qb M n F:=by
 obtain⟨a,h,r⟩:=h;exact⟨a,(jC qb).fr h f hG,r⟩
theorem QS.fr0(h:QS w qb M n F)(f:Fr NoF w w'):QS w' qb M n F:=h.fr f (λ_ _ q=>q)
theorem QS.lt(h:QS w qb M n F):∀i,F i->i<w.heap.size:=by
 obtain⟨a,h,r⟩:=h;exact(jC qb).bd h
theorem QS.congr(h:QS w qb M n F){M':Th->Prop}(e:∀t,M t↔M' t):QS w qb M' n F:=by
 obtain⟨a,h,hh,hM⟩:=h;exact⟨a,h,hh,λt=>(e t).symm.trans (hM t)⟩
theorem E5(w:World):Calls prog 49 #[] w λe w'=>e=.returned (.pointer (some ⟨w.heap.size,0,none⟩))/\QS w' w.heap.size (λ_=>False) 0 (λi=>i=w.heap.size)/\Fr NoF w w':=by
 have K:Hid (QS (w.alloc (.cells #[.slice none 0 0,.map none] 189)) w.heap.size (λ_=>False) 0 (λi=>i=w.heap.size)):=by
  refine⟨λ_=>⟨0,0,0⟩,⟨.slice none 0 0,none,λ_=>none,⟨⟨_,_,heap_alloc_new _ _ _ rfl,rfl,λi hi=>?_⟩,SlF.nil _ _ _ _,⟨rfl,λ_=>rfl⟩,λx k=>⟨λq=>(by cases q),λ⟨j,_,q,_⟩=>(by omega)⟩,λk q=>(by omega),λb q=>(by cases q),λb q=>(by cases q),by omega⟩,λi=>⟨λq=>.inl q,λq=>?_⟩⟩,λk _ q=>(by omega),λt=>⟨λq=>q.elim,λ⟨k,q,_⟩=>(by omega)⟩⟩
  .match i,hi with
   |0,_=>rfl
   |1,_=>rfl
  .rcases q with q|q|q
   .exact q
   .cases q
   .cases q
 go_enter func49,ntmps49;go_wp2;go_returns;exact⟨rfl,K.out,(Fr.refl NoF w).alloc _⟩
theorem sJ(h:QS w qb M n F):Calls prog 201 #[.pointer (some ⟨qb,0,none⟩)] w λe w'=>e=.returned (.int .i64 (n:Nat))/\w=w':=by
 obtain⟨a,⟨lv,mo,g,h,hF⟩,_⟩:=h;have HL:=Hd (q_len h);have lb:=h.hd.lt;clear h hF;go_enter func201,ntmps201
 go_wp2_with fail
 refine HL.out.mono ?_;rintro e w1⟨rfl,rfl⟩;go_wp2;go_returns;exact⟨rfl,rfl⟩
theorem jS(h:QC w qb a n lv mo g){k:Nat}(hk:k<n):Calls prog 195 #[.pointer (some ⟨qb,0,none⟩),.int .i64 (a k).x] w λe w'=>e=.returned (.tuple #[.int .i64 k,.bool true])/\w=w':=by
 have c1:=h.c1;have lb:=h.hd.lt;have HX:Hid (g (a k).x=some (k:Int)):=(h.pl (a k).x (k:Int)).2 ⟨k,rfl,hk,rfl⟩;have HW:Hid (i64 (a k).x):=(h.ok k hk).1
 cases mo with
 |none=>have:=h.mp.1;omega
 |some mb=>
  have HM:Hid (MpN prog 3 3 .i64 .i64 w mb n g):=h.mp;generalize(a k).x=x at*;clear h;go_enter func195,ntmps195
  go_wp2_with(at_lookup;go_must(refine bB MIq HM.out HX.out rfl _ _ rfl (by rfl) (by rfl) HW.out ?_))
  go_returns;exact⟨rfl,rfl⟩
theorem kR(h:QC w qb a n lv mo g){x:Int}(hx:i64 x)(hno:∀k,k<n->¬(a k).x=x):Calls prog 195 #[.pointer (some ⟨qb,0,none⟩),.int .i64 x] w λe w'=>e=.returned (.tuple #[.int .i64 0,.bool false])/\w=w':=by
 have c1:=h.c1;have lb:=h.hd.lt
 have HX:Hid (g x=none):=by
  cases e:g x with
  |none=>rfl
  |some k=>
   obtain⟨j,_,hj,q⟩:=(h.pl x k).1 e;exact(hno j hj q).elim
 have HW:=Hd hx
 cases mo with
 |none=>
  have hln:∀W:World,(Instr.lookup 185 (.map none) (.int .i64 x) true).run prog W=.ok (.tuple #[.int .i64 0,.bool false]) W:=by
   intro W;have:=Maps.look_nil (P:=prog) (w:=W) true (int_keyed MIq.uk) MIq.ut (MIq.z W) (keyOf_int_mk MIq.uk hx);exact this
  clear h hno hx;go_enter func195,ntmps195;go_wp2;go_returns;exact⟨rfl,rfl⟩
 |some mb=>
  have HM:Hid (MpN prog 3 3 .i64 .i64 w mb n g):=h.mp;clear h hno hx;go_enter func195,ntmps195
  go_wp2_with(at_lookup;go_must(refine bz MIq HM.out HX.out rfl _ _ rfl (by rfl) (by rfl) HW.out ?_))
  go_returns;exact⟨rfl,rfl⟩
theorem pV(h:QS w qb M 0 F):Calls prog 200 #[.pointer (some ⟨qb,0,none⟩)] w λe w'=>e=.returned (.tuple #[.int .i64 0,.bool false])/\w=w':=by
 have HL:=Hd (sJ h);clear h;go_enter func200,ntmps200
 go_wp2_with fail
 refine HL.out.mono ?_;rintro e w1⟨rfl,rfl⟩;go_wp2;go_returns;exact⟨rfl,rfl⟩
def Ev(M:Th->Prop)(t:Th):Prop:=M t/\∀u,M u->ltT u t=false
theorem pe(h:QS w qb M n F)(hn:0<n):∃t,Ev M t/\Hid (∀W,Fr NoF w W->Calls prog 200 #[.pointer (some ⟨qb,0,none⟩)] W λe w'=>e=.returned (.tuple #[.int .i64 t.x,.bool true])/\W=w'):=by
 have h0:=h;obtain⟨a,⟨lv,mo,g,h,hF⟩,hh,hM⟩:=h;refine⟨a 0,⟨(hM (a 0)).2 ⟨0,hn,rfl⟩,λu hu=>?_⟩,λW f=>?_⟩
 .obtain⟨k,hk,rfl⟩:=(hM u).1 hu
  exact hh.root iI k hk
 .have HL:=Hd (sJ (h0.fr0 f))
  have hq:=h.fr0 f;have c0:=hq.c0;have lb:=hq.hd.lt;have hnb:((n:Int)==0)=false:=by simp;omega
  have hnd:(n==0)=false:=by simp;omega
  have hnp:0<(n:Int):=by omega
  obtain⟨gb,cap,rfl,h1,h2,h3,h4,i0,i1,i2⟩:=hq.el hn;rw[Nat.zero_mul]at i0;generalize(a 0).x=ix at*;clear h hq h0 hF hh hM i1 i2 f;go_enter func200,ntmps200
  go_wp2_with fail
  refine HL.out.mono ?_;rintro e w1⟨rfl,rfl⟩;go_wp2;go_returns;exact⟨rfl,rfl⟩
end
theorem xb{α:Type}{lt:α->α->Bool}{a:Nat->α}{n:Nat}(t:α)(h:bt lt a n):dB lt (upd a n t) (n+1) n:=by
 refine⟨λk h0 h1 h2=>?_,λk h0 h1 h2 h3=>?_⟩
 .have hp:par k<n:=by unfold par;omega
  rw[aa _ _ h2,aa _ _ (by omega)];exact h k h0 (by omega)
 .exfalso;unfold par at h2;omega
section
variable{w w':World}{qb n:Nat}{a:Nat->Th}{lv:Value}{mo:Option Nat}{g:Int->Option Int}{F:Nat->Prop}{M:Th->Prop}
theorem sU(h:QS w qb M n F){t:Th}(hok:vS t)(hn:n<900000)(hne:∀u,M u->¬u.x=t.x):Calls prog 198 #[.pointer (some ⟨qb,0,none⟩),.int .i64 t.x,.agg #[.int .i64 t.a,.int .i64 t.b]] w λe w'=>e=.returned (.tuple #[])/\∃F',QS w' qb (λu=>u=t\/M u) (n+1) F'/\Fr F w w'/\∀i,F' i->F i\/w.heap.size<=i:=by
 obtain⟨a,hr,hh,hM⟩:=h;have hna:∀k,k<n->¬(a k).x=t.x:=λk hk=>hne (a k) ((hM _).2 ⟨k,hk,rfl⟩)
 have HP:Hid (∀W,Fr NoF w W->Calls prog 87 #[.iface 270 (.pointer (some ⟨qb,0,none⟩)),nP t] W λe w'=>e=.returned (.tuple #[])/\∃F',QS w' qb (λu=>u=t\/M u) (n+1) F'/\Fr F W w'/\(∀i,F' i->F i\/W.heap.size<=i)):=by
  intro W f;refine(nH (jC qb) ((jC qb).fr hr f (λ_ _ q=>q)) (t:=t) ⟨hn,hok,hna⟩).mono ?_;rintro e w'⟨he,F',hr',hf,hF'⟩;refine⟨he,F',⟨_,hr',dB.up iI _ n (by omega) (xb t hh),λu=>?_⟩,hf,hF'⟩;rw[tf ltT u _ n (by omega)];constructor
  .rintro(rfl|q)
   .exact⟨n,by omega,by rw[upd_same]⟩
   .obtain⟨k,hk,rfl⟩:=(hM u).1 q
    exact⟨k,by omega,by rw[aa _ _ (by omega)]⟩
  .rintro⟨k,hk,rfl⟩
   by_cases e:k=n
   .subst e;rw[upd_same];exact .inl rfl
   .rw[aa _ _ e];exact .inr ((hM _).2 ⟨k,by omega,rfl⟩)
 have HLT:Hid (∀i,F i->i<w.heap.size):=(jC qb).bd hr;obtain⟨lv,mo,g,h,hF⟩:=hr;have c1:=h.c1;have lb:=h.hd.lt
 have HX:Hid (g t.x=none):=by
  cases e:g t.x with
  |none=>rfl
  |some k=>
   obtain⟨j,_,hj,q⟩:=(h.pl t.x k).1 e;exact(hna j hj q).elim
 have HW:Hid (i64 t.x):=hok.1;have HQ:=Hd h;obtain⟨tx,ta,tb⟩:=t;unfold nP thV at HP
 have HBX:Hid (∀W,Fr NoF (w.alloc (.cells #[.int .i64 ta,.int .i64 tb] 265)) W->W.cell? ⟨w.heap.size,0,none⟩=some (.int .i64 ta)/\W.cell? ⟨w.heap.size,1,none⟩=some (.int .i64 tb)):=by
  intro W f
  have b1:Blk (w.alloc (.cells #[.int .i64 ta,.int .i64 tb] 265)) w.heap.size 2 (λi=>if i=0 then .int .i64 ta else .int .i64 tb):=Blk.new w _ 265 2 _ _ rfl rfl (λi hi=>by
   match i,hi with
   |0,_=>rfl
   |1,_=>rfl)
  have c1:=b1.fr f (λq=>q);exact⟨c1.cell (i:=0) (by omega),c1.cell (i:=1) (by omega)⟩
 have HBP:Hid (∀W W',Fr NoF (w.alloc (.cells #[.int .i64 ta,.int .i64 tb] 265)) W->Fr F W W'->W'.cell? ⟨w.heap.size,0,none⟩=some (.int .i64 ta)/\W'.cell? ⟨w.heap.size,1,none⟩=some (.int .i64 tb)):=by
  intro W W' f f';obtain⟨q1,q2⟩:=HBX.out W f;have hl:w.heap.size<W.heap.size:=by have:=f.size;simp at this;omega
  have hnF:¬F w.heap.size:=λq=>by have:=HLT.out _ q;omega
  rw[f'.cell (p:=⟨w.heap.size,0,none⟩) hl hnF,f'.cell (p:=⟨w.heap.size,1,none⟩) hl hnF];exact⟨q1,q2⟩
 have fA:Fr NoF w (w.alloc (.cells #[.int .i64 ta,.int .i64 tb] 265)):=(Fr.refl NoF w).alloc _;have HFA:=Hd fA;have HSZ:Hid (∀W',Fr NoF w W'->∀i,W'.heap.size<=i->w.heap.size<=i):=λW' f i q=>Nat.le_trans f.size q
 have lt0:w.heap.size<(w.alloc (.cells #[.int .i64 ta,.int .i64 tb] 265)).heap.size:=by simp
 cases mo with
 |none=>
  have hln:∀W:World,(Instr.lookup 185 (.map none) (.int .i64 tx) true).run prog W=.ok (.tuple #[.int .i64 0,.bool false]) W:=by
   intro W;have:=Maps.look_nil (P:=prog) (w:=W) true (int_keyed MIq.uk) MIq.ut (MIq.z W) (keyOf_int_mk MIq.uk HW.out);exact this
  clear h hF hh hM hne hna hok fA;go_enter func198,ntmps198;go_wp2
  go_region_held3(λw'=>w'.cell? ⟨w.heap.size,0,none⟩=some (.int .i64 ta)/\w'.cell? ⟨w.heap.size,1,none⟩=some (.int .i64 tb))
   (first|exact H9.out|exact HBX.out _ (by repeat(first|exact Fr.refl NoF _|apply Fr.drew|apply Fr.drewN)))
   (first
    |(go_at_call 87;(with_reducible refine(HP.out _ (by repeat(first|exact HFA.out|apply Fr.drew|apply Fr.drewN))).mono ?_);rintro e w9⟨rfl,F9,hq9,hf9,hF9⟩;have H9:=Hd (HBP.out _ w9 (by repeat(first|exact Fr.refl NoF _|apply Fr.drew|apply Fr.drewN)) hf9);have HR9:Hid (∃F',QS w9 qb (λu=>u=⟨tx,ta,tb⟩\/M u) (n+1) F'/\Fr F w w9/\∀i,F' i->F i\/w.heap.size<=i):=⟨F9,hq9,((HFA.out.drew).mono (λ_ q=>q.elim)).trans hf9 (λi q=>.inl q),λi q=>(hF9 i q).imp id (HSZ.out _ (by repeat(first|exact HFA.out|apply Fr.drew|apply Fr.drewN)) i)⟩;clear hq9 hf9 hF9))
  all_goals
   go_wp2;go_returns;exact⟨rfl,HR9.out⟩
 |some mb=>
  have HM:Hid (∀W,Fr NoF w W->MpN prog 3 3 .i64 .i64 W mb n g):=λW f=>MpN.fr h.mp f (λq=>q)
  clear h hF hh hM hne hna hok fA;go_enter func198,ntmps198
  go_wp2_with(at_lookup;go_must(refine bz MIq (HM.out _ HFA.out) HX.out rfl _ _ rfl (by rfl) (by rfl) HW.out ?_))
  go_region_held3(λw'=>w'.cell? ⟨w.heap.size,0,none⟩=some (.int .i64 ta)/\w'.cell? ⟨w.heap.size,1,none⟩=some (.int .i64 tb))
   (first|exact H9.out|exact HBX.out _ (by repeat(first|exact Fr.refl NoF _|apply Fr.drew|apply Fr.drewN)))
   (first
    |(go_at_call 87;(with_reducible refine(HP.out _ (by repeat(first|exact HFA.out|apply Fr.drew|apply Fr.drewN))).mono ?_);rintro e w9⟨rfl,F9,hq9,hf9,hF9⟩;have H9:=Hd (HBP.out _ w9 (by repeat(first|exact Fr.refl NoF _|apply Fr.drew|apply Fr.drewN)) hf9);have HR9:Hid (∃F',QS w9 qb (λu=>u=⟨tx,ta,tb⟩\/M u) (n+1) F'/\Fr F w w9/\∀i,F' i->F i\/w.heap.size<=i):=⟨F9,hq9,((HFA.out.drew).mono (λ_ q=>q.elim)).trans hf9 (λi q=>.inl q),λi q=>(hF9 i q).imp id (HSZ.out _ (by repeat(first|exact HFA.out|apply Fr.drew|apply Fr.drewN)) i)⟩;clear hq9 hf9 hF9))
  all_goals
   go_wp2;go_returns;exact⟨rfl,HR9.out⟩
theorem QC.keyed{gb cap:Nat}(h:QC w qb a n (.slice (some ⟨gb,0,none⟩) n cap) mo g){k:Nat}(hk:k<n){t:Th}(hx:(a k).x=t.x)(hok:vS t){w1:World}(hw:w1=(w.setCell ⟨gb,k*3+1,none⟩ (.int .i64 t.a)).setCell ⟨gb,k*3+2,none⟩ (.int .i64 t.b)):
  QC w1 qb (upd a k t) n (.slice (some ⟨gb,0,none⟩) n cap) mo g/\Fr (λi=>i=gb) w w1:=by
 have fr:Fr (λk=>k=gb) w w1:=by
  rw[hw];exact((Fr.refl (λk=>k=gb) w).setCell (p:=⟨gb,k*3+1,none⟩) (.inl rfl) _).setCell (p:=⟨gb,k*3+2,none⟩) (.inl rfl) _
 have s1:=((h.li.set (i:=k*3+1) (by omega) (.int .i64 t.a)).set (i:=k*3+2) (by omega) (.int .i64 t.b));rw[<-hw]at s1
 have e1:∀i,i<n*3->upd (upd (thF a) (k*3+1) (.int .i64 t.a)) (k*3+2) (.int .i64 t.b) i=thF (upd a k t) i:=by
  intro i _;rw[<-jW]
  have e2:upd (thF a) (k*3) (.int .i64 t.x)=thF a:=by
   funext j
   unfold upd;split
   .rename_i q;rw[q,pN,hx]
   .rfl
  rw[e2]
 obtain⟨k1,k2⟩:=h.n1 gb rfl;refine⟨⟨h.hd.fr fr (λq=>k1 q.symm),s1.congr e1,h.mp.fr fr (λb q e=>k2 (by rw[q,e])),λx j=>?_,λj hj=>?_,h.n1,h.n2,h.sm⟩,fr⟩
 .rw[h.pl x j]
  constructor
  .rintro⟨m,rfl,hm,q⟩
   refine⟨m,rfl,hm,?_⟩;by_cases e:m=k
   .subst e;rw[upd_same,<-hx];exact q
   .rw[aa _ _ e];exact q
  .rintro⟨m,rfl,hm,q⟩
   refine⟨m,rfl,hm,?_⟩;by_cases e:m=k
   .subst e;rw[upd_same,<-hx]at q;exact q
   .rw[aa _ _ e]at q;exact q
 .by_cases e:j=k
  .subst e;rw[upd_same];exact hok
  .rw[aa _ _ e];exact h.ok j hj
theorem sk(h:QS w qb M n F){t:Th}(hok:vS t)(hex:∃u,M u/\u.x=t.x):Calls prog 198 #[.pointer (some ⟨qb,0,none⟩),.int .i64 t.x,.agg #[.int .i64 t.a,.int .i64 t.b]] w λe w'=>e=.returned (.tuple #[])/\QS w' qb (λu=>u=t\/(M u/\¬u.x=t.x)) n F/\Fr F w w':=by
 obtain⟨a,hr,hh,hM⟩:=h
 obtain⟨k,hk,hkx⟩:∃k,k<n/\(a k).x=t.x:=by
  obtain⟨u,hu,e⟩:=hex;obtain⟨k,hk,rfl⟩:=(hM u).1 hu;exact⟨k,hk,e⟩
 obtain⟨lv,mo,g,h,hF⟩:=hr;have hn:=h.sm;have c0:=h.c0;have c1:=h.c1;have lb:=h.hd.lt;have hinj:=h.inj;obtain⟨gb,cap,rfl,h1,h2,h3,h4,i0,i1,i2⟩:=h.el hk;obtain⟨k1,k2⟩:=h.n1 gb rfl
 cases mo with
 |none=>have:=h.mp.1;omega
 |some mb=>
  have HX:Hid (g t.x=some (k:Int)):=by rw[<-hkx];exact(h.pl (a k).x (k:Int)).2 ⟨k,rfl,hk,rfl⟩
  have HW:Hid (i64 t.x):=hok.1;have HM:Hid (∀W,Fr NoF w W->MpN prog 3 3 .i64 .i64 W mb n g):=λW f=>MpN.fr h.mp f (λq=>q)
  have HFX:Hid (∀W w1,Fr NoF w W->w1=(W.setCell ⟨gb,k*3+1,none⟩ (.int .i64 t.a)).setCell ⟨gb,k*3+2,none⟩ (.int .i64 t.b)->∀W1,Fr NoF w1 W1->Calls prog 202 #[.iface 270 (.pointer (some ⟨qb,0,none⟩)),.int .i64 k] W1 λe w'=>e=.returned (.tuple #[])/\QS w' qb (λu=>u=t\/(M u/\¬u.x=t.x)) n F/\Fr F w w'):=by
   intro W w1 f hw W1 f1;obtain⟨hq,fq⟩:=(h.fr0 f).keyed hk hkx hok hw;have hr1:HRq qb W1 (upd a k t) n F:=(jC qb).fr ⟨_,_,_,hq,hF⟩ f1 (λ_ _ q=>q);refine(At (jC qb) hr1 hk).mono ?_;rintro e w'⟨he,hr',hf⟩;refine⟨he,⟨_,hr',pP iI hk (C8 iI hh k t),λu=>?_⟩,(((f.mono (λ_ q=>q.elim)).trans fq (λi q=>.inl ((hF i).2 (.inr (.inl (by rw[q];rfl)))))).trans f1 (λ_ q=>q.elim)).trans hf (λi q=>.inl q)⟩;rw[uM hk u];constructor
   .rintro(rfl|⟨q,hne⟩)
    .exact⟨k,hk,by rw[upd_same]⟩
    .obtain⟨m,hm,rfl⟩:=(hM u).1 q
     refine⟨m,hm,?_⟩;rw[aa];rintro rfl;exact hne hkx
   .rintro⟨m,hm,rfl⟩
    by_cases e:m=k
    .subst e;rw[upd_same];exact .inl rfl
    .rw[aa _ _ e]
     refine .inr ⟨(hM _).2 ⟨m,hm,rfl⟩,λq=>e ?_⟩;exact hinj m k hm hk (q.trans hkx.symm)
  obtain⟨tx,ta,tb⟩:=t;have fA:Fr NoF w (w.alloc (.cells #[.int .i64 ta,.int .i64 tb] 265)):=(Fr.refl NoF w).alloc _;have HFA:=Hd fA;have hkc:k<cap:=by omega
  clear h hF hh hM hex hok fA hkx hinj i0;generalize(a k).a=oa at*;generalize(a k).b=ob at*;go_enter func198,ntmps198
  go_wp2_with(at_lookup;go_must(refine bB MIq (HM.out _ HFA.out) HX.out rfl _ _ rfl (by rfl) (by rfl) HW.out ?_))
  go_region
  go_wp2_with fail
  refine(HFX.out w ((w.setCell ⟨gb,k*3+1,none⟩ (.int .i64 ta)).setCell ⟨gb,k*3+1+1,none⟩ (.int .i64 tb)) (Fr.refl _ _) rfl _ (((Fr.refl NoF _).alloc _).drew)).mono ?_;rintro e w2⟨rfl,h2⟩;have H2:=Hd h2;clear h2 HFX;go_wp2;go_returns;exact⟨rfl,H2.out⟩
theorem rS(h:QS w qb M n F){x:Int}(hx:i64 x)(hne:∀u,M u->¬u.x=x):Calls prog 184 #[.pointer (some ⟨qb,0,none⟩),.int .i64 x] w λe w'=>e=.returned (.bool false)/\w=w':=by
 obtain⟨a,⟨lv,mo,g,h,hF⟩,hh,hM⟩:=h;have HC:=Hd (kR h hx (λk hk=>hne _ ((hM _).2 ⟨k,hk,rfl⟩)));clear h hF hh hM hne hx;go_enter func184,ntmps184
 go_wp2_with fail
 refine HC.out.mono ?_;rintro e w1⟨rfl,rfl⟩;go_wp2;go_returns;exact⟨rfl,rfl⟩
theorem qz(h:QS w qb M (n+1) F){x:Int}(hex:∃u,M u/\u.x=x):Calls prog 184 #[.pointer (some ⟨qb,0,none⟩),.int .i64 x] w λe w'=>e=.returned (.bool true)/\QS w' qb (λu=>M u/\¬u.x=x) n F/\Fr F w w':=by
 obtain⟨a,hr,hh,hM⟩:=h
 obtain⟨k,hk,hkx⟩:∃k,k<n+1/\(a k).x=x:=by
  obtain⟨u,hu,e⟩:=hex;obtain⟨k,hk,rfl⟩:=(hM u).1 hu;exact⟨k,hk,e⟩
 have HRM:Hid (Calls prog 196 #[.iface 270 (.pointer (some ⟨qb,0,none⟩)),.int .i64 k] w λe w'=>e=.returned (nP (a k))/\QS w' qb (λu=>M u/\¬u.x=x) n F/\Fr F w w'):=by
  refine(qZ (jC qb) hr (i:=k) (by omega)).mono ?_;rintro e w'⟨he,hr',hf⟩;obtain⟨lv,mo,g,h,hF⟩:=hr;refine⟨he,⟨_,hr',zI iI (by omega) hh,λu=>?_⟩,hf⟩;rw[CQ (f:=λt:Th=>t.x) (by omega) h.inj u]
  show(M u/\¬u.x=x)↔_/\¬u.x=(a k).x
  rw[hM u,hkx]
 obtain⟨lv,mo,g,h,hF⟩:=hr;have HC:=jS h hk;rw[hkx]at HC;have HC2:=Hd HC;have lb:=h.hd.lt;unfold nP at HRM;generalize thV (a k)=tv at*;clear h hF hh hM hex HC hkx;go_enter func184,ntmps184
 go_wp2_with fail
 refine HC2.out.mono ?_;rintro e w1⟨rfl,rfl⟩
 go_wp2_with fail
 refine HRM.out.mono ?_;rintro e w2⟨rfl,h2⟩;have H2:=Hd h2;clear h2 HRM;go_wp2;go_returns;exact⟨rfl,H2.out⟩
end
end
end Go.Proofs.YtoenclhimbpfeaaGreatDoor
