/- Part 36. -/
import Derived.Test.YtoenclhimbpfeaaGreatDoorC35
import Derived.Deep.DeepCutAuto
namespace Go.Proofs.YtoenclhimbpfeaaGreatDoor
set_option linter.all false
set_option maxHeartbeats 16000000
set_option maxRecDepth 100000
section
open Go.Maps Go.Proofs.Tryz Go.RowKit
section
variable{w w':World}{qb n:Nat}{a:Nat->Th}{lv:Value}{mo:Option Nat}{g:Int->Option Int}{F:Nat->Prop}
theorem q_swap(h:QC w qb a n lv mo g){i j:Nat}(hi:i<n)(hj:j<n):Calls prog 271 #[.pointer (some ⟨qb,0,none⟩),.int .i64 i,.int .i64 j] w fun e w'=>e=.returned (.tuple #[])∧HRq qb w' (swp a i j) n (FQ qb lv mo)∧Fr (FQ qb lv mo) w w':=by
 have hn:=h.sm;have c0:=h.c0;have lb:=h.hd.lt;obtain⟨gb,cap,rfl,h1,h2,h3,h4,i0,i1,i2⟩:=h.el hi;obtain⟨gb',cap',e,_,_,_,_,j0,j1,j2⟩:=h.el hj;simp only[Value.slice.injEq,Option.some.injEq,Addr.mk.injEq]at e;obtain⟨⟨rfl,_⟩,_,rfl⟩:=e;obtain⟨k1,k2⟩:=h.n1 gb rfl;obtain⟨w1,hw1⟩:∃w1,w1=(((((w.setCell ⟨gb,i*3,none⟩ (.int .i64 (a j).x)).setCell ⟨gb,i*3+1,none⟩ (.int .i64 (a j).a)).setCell ⟨gb,i*3+2,none⟩ (.int .i64 (a j).b)).setCell ⟨gb,j*3,none⟩ (.int .i64 (a i).x)).setCell ⟨gb,j*3+1,none⟩ (.int .i64 (a i).a)).setCell ⟨gb,j*3+2,none⟩ (.int .i64 (a i).b):=⟨_,rfl⟩;obtain⟨s1,fr,mb,hmo,hm1,c0',c1',okx,oky,K⟩:=h.swap hi hj hw1;have k3:=h.n2 mb hmo;have k2':¬mb=gb:=fun q=>k2 (by rw[hmo,q])
 have HK:=K;have lw1:=fr.size
 have HS:Hid (∀W,Fr (fun k=>k=mb) w1 W->W.cell? ⟨qb,0,none⟩=some (.slice (some ⟨gb,0,none⟩) n cap)∧W.cell? ⟨qb,1,none⟩=some (.map (some mb))∧W.cell? ⟨gb,i*3,none⟩=some (.int .i64 (a j).x)∧W.cell? ⟨gb,j*3,none⟩=some (.int .i64 (a i).x)):=by
  intro W f;obtain⟨g2,cap2,e2,_,_,l2,_,ce⟩:=s1.at (by omega);simp only[Value.slice.injEq,Option.some.injEq,Addr.mk.injEq]at e2;obtain⟨⟨rfl,_⟩,_,rfl⟩:=e2;refine⟨?_,?_,?_,?_⟩
  .rw[f.cell (p:=⟨qb,0,none⟩) (by show qb<_;omega) (fun q=>k3 q.symm)];exact c0'
  .rw[f.cell (p:=⟨qb,1,none⟩) (by show qb<_;omega) (fun q=>k3 q.symm)];exact c1'
  .rw[f.cell (p:=⟨gb,i*3,none⟩) l2 (fun q=>k2' q.symm),ce _ (by omega),thF_0]
   congr 2;unfold swp;rw[if_pos rfl]
  .rw[f.cell (p:=⟨gb,j*3,none⟩) l2 (fun q=>k2' q.symm),ce _ (by omega),thF_0]
   congr 2;unfold swp;split
   .rename_i q;rw[q]
   .rw[if_pos rfl]
 have wfi:(Lit.int .i64 (i:Int)).wf=true:=WalkArith.wf_i64 ⟨by omega,by omega⟩;have wfj:(Lit.int .i64 (j:Int)).wf=true:=WalkArith.wf_i64 ⟨by omega,by omega⟩
 have HE:Hid (∀W,Fr NoF w1 W->∃(v0:Value) (st:Nat) (w2 w3:World) (v1:Value) (st':Nat) (w4 w5:World),(Instr.mapEntry 185 (.map (some mb)) (.int .i64 (a j).x)).run prog W=.ok (.tuple #[v0,.int .i64 (st:Int)]) w2∧(Instr.entryStore 185 (.map (some mb)) (.int .i64 (st:Int)) (.int .i64 (i:Int))).run prog w2=.ok () w3∧
   (Instr.mapEntry 185 (.map (some mb)) (.int .i64 (a i).x)).run prog w3=.ok (.tuple #[v1,.int .i64 (st':Int)]) w4∧(Instr.entryStore 185 (.map (some mb)) (.int .i64 (st':Int)) (.int .i64 (j:Int))).run prog w4=.ok () w5∧
   Hid (Fr (fun k=>k=mb) w1 w2∧Fr (fun k=>k=mb) w1 w3∧Fr (fun k=>k=mb) w1 w4∧Fr (fun k=>k=mb) w1 w5∧MpN prog 3 3 .i64 .i64 w5 mb n (updI (updI g (a j).x (some (i:Int))) (a i).x (some (j:Int))))):=by
  intro W f;have fm:Fr (fun k=>k=mb) w1 W:=f.mono (fun _ q=>q.elim);obtain⟨v0,st,w2,w3,e1,e2,f2,m3,f3⟩:=(hm1.fr f (fun q=>q)).entry MIq hn (x:=(a j).x) (y:=(i:Int)) oky wfi;have hg1:(g (a j).x).isSome=true:=by rw[(h.pl (a j).x (j:Int)).2 ⟨j,rfl,hj,rfl⟩];rfl
  rw[if_pos hg1]at m3;obtain⟨v1,st',w4,w5,e3,e4,f4,m5,f5⟩:=m3.entry MIq hn (x:=(a i).x) (y:=(j:Int)) okx wfj
  have hg2:(updI g (a j).x (some (i:Int)) (a i).x).isSome=true:=by
   by_cases q:(a i).x=(a j).x
   .rw[q,updI_same];rfl
   .rw[updI_other _ _ q,(h.pl (a i).x (i:Int)).2 ⟨i,rfl,hi,rfl⟩];rfl
  rw[if_pos hg2]at m5;have g3:=fm.trans f3 (fun i q=>.inl q);exact⟨v0,st,w2,w3,v1,st',w4,w5,e1,e2,e3,e4,fm.trans f2 (fun i q=>.inl q),g3,g3.trans f4 (fun i q=>.inl q),g3.trans f5 (fun i q=>.inl q),m5⟩
 have HW1:=Hd hw1;clear s1 fr hm1 c0' c1' okx oky K wfi wfj h k2 hw1;by_cases hij:i=j
 .subst hij
  clear j0 j1 j2;generalize(a i).x=ix at*;generalize(a i).a=ia at*;generalize(a i).b=ib at*;go_enter func271,ntmps271;go_wp2
  go_region
  go_wp2;rw[<-HW1.out];obtain⟨v0,st,w2,w3,v1,st',w4,w5,e1,e2,e3,e4,HX⟩:=HE.out w1.drew.drew (((Fr.refl NoF w1).drew).drew)
  go_region_held3(fun w'=>w'.cell? ⟨qb,0,none⟩=some (.slice (some ⟨gb,0,none⟩) n cap)∧w'.cell? ⟨qb,1,none⟩=some (.map (some mb))∧w'.cell? ⟨gb,i*3,none⟩=some (.int .i64 ix)∧w'.cell? ⟨gb,i*3,none⟩=some (.int .i64 ix))
   (exact HS.out _ (by first|exact HX.out.1|exact HX.out.2.1|exact HX.out.2.2.1|exact HX.out.2.2.2.1|exact((Fr.refl _ w1).drew).drew))
   (fail)
  go_wp2;go_returns;exact⟨rfl,HK.out w5 HX.out.2.2.2.2 HX.out.2.2.2.1⟩
 .have hji:¬j=i:=fun e=>hij e.symm
  generalize(a i).x=ix at*;generalize(a i).a=ia at*;generalize(a i).b=ib at*;generalize(a j).x=jx at*;generalize(a j).a=ja at*;generalize(a j).b=jb at*;go_enter func271,ntmps271;go_wp2
  go_region
  go_wp2;rw[<-HW1.out];obtain⟨v0,st,w2,w3,v1,st',w4,w5,e1,e2,e3,e4,HX⟩:=HE.out w1.drew.drew (((Fr.refl NoF w1).drew).drew)
  go_region_held3(fun w'=>w'.cell? ⟨qb,0,none⟩=some (.slice (some ⟨gb,0,none⟩) n cap)∧w'.cell? ⟨qb,1,none⟩=some (.map (some mb))∧w'.cell? ⟨gb,i*3,none⟩=some (.int .i64 jx)∧w'.cell? ⟨gb,j*3,none⟩=some (.int .i64 ix))
   (exact HS.out _ (by first|exact HX.out.1|exact HX.out.2.1|exact HX.out.2.2.1|exact HX.out.2.2.2.1|exact((Fr.refl _ w1).drew).drew))
   (fail)
  go_wp2;go_returns;exact⟨rfl,HK.out w5 HX.out.2.2.2.2 HX.out.2.2.2.1⟩
end
def encT(t:Th):Value:=.iface 277 (thV t)
def okT(a:Nat->Th)(n:Nat)(t:Th):Prop:=n<900000∧thOk t∧∀k,k<n->¬(a k).x=t.x
theorem EIt:EI prog 184 277 3 24:=EI.mk' (z:=.agg #[.int .i64 0,.int .i64 0,.int .i64 0]) underlying184 (by kernel_rfl) rfl (by decide)
section
variable{w w':World}{qb n:Nat}{a:Nat->Th}{lv:Value}{mo:Option Nat}{g:Int->Option Int}{F:Nat->Prop}
theorem QC.grown{mb:Nat}(h:QC w qb a n lv (some mb) g){t:Th}(ht:okT a n t){wB w2:World}{lv':Value}(f0:Fr (fun i=>i=mb) w wB)(hm:MpN prog 3 3 .i64 .i64 wB mb (n+1) (updI g t.x (some (n:Int))))
  (hs:SlF w2 277 3 lv' (n+1) (upd (upd (upd (thF a) (n*3) (.int .i64 t.x)) (n*3+1) (.int .i64 t.a)) (n*3+2) (.int .i64 t.b)))(f:Fr (fun b=>lv.ownBlock=some b) wB w2)(ho:∀b,lv'.ownBlock=some b->lv.ownBlock=some b∨wB.heap.size<=b):
  w2.cell? ⟨qb,0,none⟩=some lv∧w2.frozen? ⟨qb,0,none⟩=false∧qb<w2.heap.size∧
  Hid (HRq qb (w2.setCell ⟨qb,0,none⟩ lv') (upd a n t) (n+1) (FQ qb lv' (some mb))∧Fr (FQ qb lv (some mb)) w (w2.setCell ⟨qb,0,none⟩ lv')∧∀i,FQ qb lv' (some mb) i->FQ qb lv (some mb) i∨w.heap.size<=i):=by
 obtain⟨hn,hok,hne⟩:=ht;have k3:=h.n2 mb rfl;have hb1:=(h.hd.fr f0 (fun q=>k3 q.symm)).fr f (fun q=>(h.n1 qb q).1 rfl);rw[thF_set]at hs;have hz:=f0.size;have hz2:=f.size
 have n1':∀b,lv'.ownBlock=some b->¬b=qb∧¬(some mb)=some b:=by
  intro b q;rcases ho b q with q|q
  .exact h.n1 b q
  .refine⟨?_,?_⟩
   .have:=h.hd.lt;omega
   .rintro⟨rfl⟩
    have:=hm.lt;omega
 have fs:Fr (fun i=>i=qb) w2 (w2.setCell ⟨qb,0,none⟩ lv'):=(Fr.refl (fun i=>i=qb) w2).setCell (p:=⟨qb,0,none⟩) (.inl rfl) _
 have hgn:g t.x=none:=by
  cases e:g t.x with
  |none=>rfl
  |some k=>
   obtain⟨j,_,hj,q⟩:=(h.pl t.x k).1 e;exact(hne j hj q).elim
 refine⟨hb1.cell (i:=0) (by omega),hb1.frozen 0,hb1.lt,⟨lv',some mb,_,⟨?_,hs.fr fs (fun b q e=>(n1' b q).1 e),(MpN.fr hm f (fun q=>(h.n1 mb q).2 rfl)).fr fs (fun q=>k3 q),fun x k=>?_,fun k hk=>?_,n1',h.n2,by omega⟩,fun i=>Iff.rfl⟩,((f0.mono (fun i q=>.inr (.inr (by rw[q])))).trans f (fun i q=>.inl (.inr (.inl q)))).trans fs (fun i q=>.inl (.inl q)),?_⟩
 .have h1:=hb1.set 0 lv'
  refine h1.congr (fun i hi=>?_)
  match i,hi with
  |0,_=>rfl
  |1,_=>rfl
 .by_cases e:x=t.x
  .subst e
   rw[updI_same];constructor
   .rintro⟨rfl⟩
    exact⟨n,rfl,by omega,by rw[upd_same]⟩
   .rintro⟨j,rfl,hj,q⟩
    by_cases ej:j=n
    .rw[ej]
    .rw[upd_other _ _ ej]at q
     exact(hne j (by omega) q).elim
  .rw[updI_other _ _ e,h.pl x k]
   constructor
   .rintro⟨j,rfl,hj,q⟩
    exact⟨j,rfl,by omega,by rw[upd_other _ _ (by omega)];exact q⟩
   .rintro⟨j,rfl,hj,q⟩
    by_cases ej:j=n
    .subst ej;rw[upd_same]at q;exact(e q.symm).elim
    .rw[upd_other _ _ ej]at q
     exact⟨j,rfl,by omega,q⟩
 .by_cases ek:k=n
  .subst ek;rw[upd_same];exact hok
  .rw[upd_other _ _ ek];exact h.ok k (by omega)
 .rintro i(q|q|q)
  .exact .inl (.inl q)
  .rcases ho i q with q|q
   .exact .inl (.inr (.inl q))
   .exact .inr (by omega)
  .exact .inl (.inr (.inr q))
theorem q_push(h:QC w qb a n lv mo g){t:Th}(ht:okT a n t):Calls prog 270 #[.pointer (some ⟨qb,0,none⟩),encT t] w fun e w'=>e=.returned (.tuple #[])∧∃F',HRq qb w' (upd a n t) (n+1) F'∧Fr (FQ qb lv mo) w w'∧∀i,F' i->FQ qb lv mo i∨w.heap.size<=i:=by
 obtain⟨tx,ta,tb⟩:=t;unfold encT thV;have hta:∀W:World,(Instr.typeAssert (.iface 277 (.agg #[.int .i64 tx,.int .i64 ta,.int .i64 tb])) 20 277 false).run prog W=.ok (.agg #[.int .i64 tx,.int .i64 ta,.int .i64 tb]) W:=fun W=>by kernel_rfl
 have hn:=ht.1;have HOK:=Hd ht;have c0:=h.c0;have c1:=h.c1;have f1:=h.hd.frozen 1;have lb:=h.hd.lt;obtain⟨va,vc,rfl,v1,v2⟩:=h.li.shape;unfold maxLen at v2
 cases mo
 case' some mb=>
  obtain⟨w1,rfl⟩:∃w1,w1=w:=⟨_,rfl⟩;have H1:=Hd h;obtain⟨gg,rfl⟩:∃x,x=g:=⟨_,rfl⟩;have HFIN:=Hd (fun(w'':World) (F':Nat->Prop) (r2:Fr (FQ qb (.slice va n vc) (some mb)) w1 w'') (r3:∀i,F' i->FQ qb (.slice va n vc) (some mb) i∨w1.heap.size<=i)=>And.intro r2 r3);have heq:∀W:World,(binOp .eql 185 (.map (some mb)) (.map none)).run prog W=.ok (.bool false) W:=fun W=>by first|rfl|kernel_rfl
  clear h ht;go_enter func270,ntmps270;go_wp2
 case' none=>
  have hn0:n=0:=h.mp.1;have hmm:=@run_makeMap prog
  have H1':Hid (∀w1,w1=(w.setCell ⟨qb,1,none⟩ (.map (some w.heap.size))).alloc (.map #[] 0)->∀mb,mb=w.heap.size->∃g',QC w1 qb a n (.slice va n vc) (some mb) g'∧Fr (fun i=>i=qb) w w1):=by
   subst hn0;rintro w1 rfl mb rfl;have fs:Fr (fun i=>i=qb) w (w.setCell ⟨qb,1,none⟩ (.map (some w.heap.size))):=(Fr.refl (fun i=>i=qb) _).setCell (p:=⟨qb,1,none⟩) (.inl rfl) _;have fa:Fr NoF (w.setCell ⟨qb,1,none⟩ (.map (some w.heap.size))) ((w.setCell ⟨qb,1,none⟩ (.map (some w.heap.size))).alloc (.map #[] 0)):=(Fr.refl NoF _).alloc _;have hl:=h.hd.lt;have hm:=MpN.made prog 3 3 .i64 .i64 (w.setCell ⟨qb,1,none⟩ (.map (some w.heap.size)));rw[show(w.setCell ⟨qb,1,none⟩ (.map (some w.heap.size))).heap.size=w.heap.size from by simp]at hm;refine⟨fun _=>none,⟨((h.hd.set 1 _).fr fa (fun q=>q)).congr (fun i hi=>?_),(h.li.fr fs (fun b q e=>(h.n1 b q).1 e)).fr fa (fun _ _ q=>q),hm,fun x k=>⟨fun q=>(by cases q),fun⟨j,_,q,_⟩=>(by omega)⟩,fun k q=>(by omega),fun b q=>⟨(h.n1 b q).1,?_⟩,?_,by omega⟩,fs.trans fa (fun _ q=>q.elim)⟩
   .match i,hi with
    |0,_=>rfl
    |1,_=>rfl
   .rintro⟨rfl⟩
    have:=h.li.lt _ q;omega
   .rintro b⟨rfl⟩
    omega
  have heq:∀W:World,(binOp .eql 185 (.map none) (.map none)).run prog W=.ok (.bool true) W:=fun W=>by first|rfl|kernel_rfl
  clear h ht hn0;go_enter func270,ntmps270
  go_upto_region 2 with fail
  obtain⟨w1,hw1⟩:∃w1,w1=(w.setCell ⟨qb,1,none⟩ (.map (some w.heap.size))).alloc (.map #[] 0):=⟨_,rfl⟩;rw[<-hw1];obtain⟨mb,hmb⟩:∃mb,mb=w.heap.size:=⟨_,rfl⟩;rw[<-hmb];obtain⟨gg,hq,fq⟩:=H1'.out w1 hw1 mb hmb;have H1:=Hd hq
  have HFIN:Hid (∀(w'':World) (F':Nat->Prop),Fr (FQ qb (.slice va n vc) (some mb)) w1 w''->(∀i,F' i->FQ qb (.slice va n vc) (some mb) i∨w1.heap.size<=i)->Fr (FQ qb (.slice va n vc) none) w w''∧∀i,F' i->FQ qb (.slice va n vc) none i∨w.heap.size<=i):=by
   intro w'' F' r2 r3;have hz:=fq.size
   have key:∀i,FQ qb (.slice va n vc) (some mb) i->FQ qb (.slice va n vc) none i∨w.heap.size<=i:=by
    rintro i(q|q|q)
    .exact .inl (.inl q)
    .exact .inl (.inr (.inl q))
    .right;have:=Option.some.inj q;omega
   exact⟨(fq.mono (fun i q=>.inl q)).trans r2 key,fun i q=>(r3 i q).elim (key i) (fun q=>.inr (by omega))⟩
  clear hq fq hw1 H1' hmm c0 c1 f1 lb;clear hmb;go_wp2
 all_goals
  have HSA:Hid (∀W,Fr NoF (w1.alloc (.cells #[.int .i64 tx,.int .i64 ta,.int .i64 tb] 277)) W->W.cell? ⟨qb,0,none⟩=some (.slice va n vc)∧W.cell? ⟨qb,1,none⟩=some (.map (some mb))∧W.cell? ⟨w1.heap.size,0,none⟩=some (.int .i64 tx)):=by
   intro W f;have fa:Fr NoF w1 W:=((Fr.refl NoF w1).alloc _).trans f (fun _ q=>q.elim)
   have b1:Blk (w1.alloc (.cells #[.int .i64 tx,.int .i64 ta,.int .i64 tb] 277)) w1.heap.size 3 (fun i=>if i=0 then .int .i64 tx else if i=1 then .int .i64 ta else .int .i64 tb):=Blk.new w1 _ 277 3 _ _ rfl rfl (fun i hi=>by
    match i,hi with
    |0,_=>rfl
    |1,_=>rfl
    |2,_=>rfl)
   exact⟨(H1.out.fr0 fa).c0,(H1.out.fr0 fa).c1,(b1.fr f (fun q=>q)).cell (i:=0) (by omega)⟩
  have fA:Fr NoF w1 ((w1.alloc (.cells #[.int .i64 tx,.int .i64 ta,.int .i64 tb] 277)).drew):=((Fr.refl NoF w1).alloc _).drew;obtain⟨wB,hrun,hmB,fB⟩:=(MpN.fr H1.out.mp fA (fun q=>q)).put_run MIq (by omega) (x:=tx) (y:=(n:Int)) HOK.out.2.1.1 (WalkArith.wf_i64 ⟨by omega,by omega⟩)
  have HMB:Hid (MpN prog 3 3 .i64 .i64 wB mb (n+1) (updI gg tx (some (n:Int)))):=by
   have hgn:gg tx=none:=by
    cases e:gg tx with
    |none=>rfl
    |some k=>
     obtain⟨j,_,hj,q⟩:=(H1.out.pl tx k).1 e;exact(HOK.out.2.2 j hj q).elim
   rw[hgn]at hmB;exact hmB
  have HFB:=Hd fB;have HFA:=Hd fA
  have HSB:Hid (∀W,Fr NoF wB W->W.cell? ⟨qb,0,none⟩=some (.slice va n vc)∧W.cell? ⟨qb,1,none⟩=some (.map (some mb))∧W.cell? ⟨w1.heap.size,0,none⟩=some (.int .i64 tx)∧W.cell? ⟨w1.heap.size,1,none⟩=some (.int .i64 ta)∧W.cell? ⟨w1.heap.size,2,none⟩=some (.int .i64 tb)):=by
   intro W f;have k3:=H1.out.n2 mb rfl;have hml:=MpN.lt H1.out.mp
   have b1:Blk (w1.alloc (.cells #[.int .i64 tx,.int .i64 ta,.int .i64 tb] 277)) w1.heap.size 3 (fun i=>if i=0 then .int .i64 tx else if i=1 then .int .i64 ta else .int .i64 tb):=Blk.new w1 _ 277 3 _ _ rfl rfl (fun i hi=>by
    match i,hi with
    |0,_=>rfl
    |1,_=>rfl
    |2,_=>rfl)
   have b2:=((b1.drew).fr HFB.out (fun q=>by omega)).fr f (fun q=>q);have hd2:=((H1.out.hd.fr HFA.out (fun q=>q)).fr HFB.out (fun q=>k3 q.symm)).fr f (fun q=>q);exact⟨hd2.cell (i:=0) (by omega),hd2.cell (i:=1) (by omega),b2.cell (i:=0) (by omega),b2.cell (i:=1) (by omega),b2.cell (i:=2) (by omega)⟩
  clear hmB fB fA
  go_region_held3(fun w'=>w'.cell? ⟨qb,0,none⟩=some (.slice va n vc)∧w'.cell? ⟨qb,1,none⟩=some (.map (some mb))∧w'.cell? ⟨w1.heap.size,0,none⟩=some (.int .i64 tx))
   (first|(obtain⟨z0,z1,z2,_⟩:=HSB.out _ (Fr.refl NoF wB);exact⟨z0,z1,z2⟩)|exact HSA.out _ (by repeat(first|exact Fr.refl NoF _|apply Fr.drew|apply Fr.drewN|apply Fr.alloc)))
   (fail)
  clear hrun;obtain⟨z0,z1,z2,z3,z4⟩:=HSB.out wB (Fr.refl NoF wB);have lbB:qb<wB.heap.size:=by have:=HFA.out.size;have:=HFB.out.size;have:=H1.out.hd.lt;omega
  have ltB:w1.heap.size<wB.heap.size:=by have:=HFB.out.size;simp at this;omega
  have HLI:Hid (SlF wB 277 3 (.slice va n vc) n (thF a)):=(H1.out.li.fr HFA.out (fun _ _ q=>q)).fr HFB.out (fun b q e=>by rw[e]at q;exact(H1.out.n1 mb q).2 rfl)
  have K:Hid (∀pv' w2 W,Fr NoF wB W->SlF w2 277 3 pv' (n+1) (upd (upd (upd (thF a) (n*3) (.int .i64 tx)) (n*3+1) (.int .i64 ta)) (n*3+2) (.int .i64 tb))->Fr (fun b=>(Value.slice va n vc).ownBlock=some b) W w2->(∀b,pv'.ownBlock=some b->(Value.slice va n vc).ownBlock=some b∨W.heap.size<=b)->
    w2.cell? ⟨qb,0,none⟩=some (.slice va n vc)∧w2.frozen? ⟨qb,0,none⟩=false∧qb<w2.heap.size∧
    Hid (HRq qb (w2.setCell ⟨qb,0,none⟩ pv') (upd a n ⟨tx,ta,tb⟩) (n+1) (FQ qb pv' (some mb))∧Fr (FQ qb (.slice va n vc) (some mb)) w1 (w2.setCell ⟨qb,0,none⟩ pv')∧∀i,FQ qb pv' (some mb) i->FQ qb (.slice va n vc) (some mb) i∨w1.heap.size<=i)):=by
   intro pv' w2 W fW hs f ho;have fz:=fW.size;exact H1.out.grown HOK.out ((HFA.out.mono (fun _ q=>q.elim)).trans HFB.out (fun i q=>.inl q)) HMB.out hs ((fW.mono (fun _ q=>q.elim)).trans f (fun i q=>.inl q)) (fun b q=>(ho b q).imp id (fun q=>by omega))
  go_wp2
  go_region_law(first
   |(refine appSB (base:=0) EIt rfl (.tmp 31) (.tmp 33) rfl (by rfl) (by rfl) (Nat.zero_le _) (own_keep HLI.out (by repeat(first|exact Fr.refl NoF _|apply Fr.drew|apply Fr.drewN|apply Fr.alloc)) (fun _ _ q=>q)) (sl_heap (size:=3) (n:=1) (cs:=#[.int .i64 tx,.int .i64 ta,.int .i64 tb]) (by(try rw[heap_drew]);refine heap_alloc_new _ _ _ ?_;simp) (by rfl) (by unfold maxLen;omega) (by simp[Value.oneCell'])) (by unfold maxLen;omega) (by omega) ?_;intro v' w2 hown' hf' hob';obtain⟨a8,c8,rfl,_,_⟩:=(SlF.snoc3 hown').shape;obtain⟨y0,y1,y2,KK⟩:=K.out _ w2 _ (by repeat(first|exact Fr.refl NoF _|apply Fr.drew|apply Fr.drewN|apply Fr.alloc)) (SlF.snoc3 hown') hf' hob';clear hown' hf' hob'))
  all_goals
   go_wp2;go_returns;obtain⟨r1,r2,r3⟩:=KK.out;exact⟨rfl,_,r1,HFIN.out _ _ r2 r3⟩
theorem QC.cut{gb cap mb:Nat}(h:QC w qb a (n+1) (.slice (some ⟨gb,0,none⟩) (n+1) cap) (some mb) g){w1 w2:World}(f1:Fr (fun i=>i=qb) w w1)(h1:w1.heap[qb]?=(w.setCell ⟨qb,0,none⟩ (.slice (some ⟨gb,0,none⟩) n cap)).heap[qb]?)(f2:Fr (fun i=>i=mb) w1 w2)(hm:MpN prog 3 3 .i64 .i64 w2 mb n (updI g (a n).x none)):
  HRq qb w2 a n (FQ qb (.slice (some ⟨gb,0,none⟩) (n+1) cap) (some mb))∧Fr (FQ qb (.slice (some ⟨gb,0,none⟩) (n+1) cap) (some mb)) w w2:=by
 have k3:=h.n2 mb rfl;obtain⟨k1,k2⟩:=h.n1 gb rfl;have k2':¬gb=mb:=fun q=>k2 (by rw[q])
 have hb:=((h.hd.set 0 (.slice (some ⟨gb,0,none⟩) n cap)).ofHeap h1).fr f2 (fun q=>k3 q.symm);refine⟨⟨.slice (some ⟨gb,0,none⟩) n cap,some mb,_,⟨hb.congr (fun i hi=>?_),((h.li.cut (m:=n) (by omega)).fr f1 (fun b q e=>k1 (by rw[e]at q;have:=Option.some.inj q;omega))).fr f2 (fun b q e=>k2' (by rw[e]at q;have:=Option.some.inj q;omega)),hm,fun x k=>?_,fun k hk=>h.ok k (by omega),fun b q=>h.n1 b q,h.n2,by have:=h.sm;omega⟩,fun i=>Iff.rfl⟩,(f1.mono (fun i q=>.inl q)).trans f2 (fun i q=>.inl (.inr (.inr (by rw[q]))))⟩
 .match i,hi with
  |0,_=>rfl
  |1,_=>rfl
 .have hij:=h.inj
  by_cases e:x=(a n).x
  .subst e
   rw[updI_same];constructor
   .intro q;cases q
   .rintro⟨j,rfl,hj,q⟩
    have:=hij j n (by omega) (by omega) q;omega
  .rw[updI_other _ _ e,h.pl x k]
   constructor
   .rintro⟨j,rfl,hj,q⟩
    refine⟨j,rfl,?_,q⟩;have:¬j=n:=fun e2=>e (by rw[<-q,e2])
    omega
   .rintro⟨j,rfl,hj,q⟩
    exact⟨j,rfl,by omega,q⟩
theorem q_pop(h:QC w qb a (n+1) lv mo g):Calls prog 269 #[.pointer (some ⟨qb,0,none⟩)] w fun e w'=>e=.returned (encT (a n))∧HRq qb w' a n (FQ qb lv mo)∧Fr (FQ qb lv mo) w w':=by
 have hn:=h.sm;have c0:=h.c0;have c1:=h.c1;have f0:=h.hd.frozen 0;have lb:=h.hd.lt;obtain⟨gb,cap,rfl,h1,h2,h3,h4,i0,i1,i2⟩:=h.el (i:=n) (by omega)
 cases mo with
 |none=>have:=h.mp.1;omega
 |some mb=>
  obtain⟨k1,k2⟩:=h.n1 gb rfl;have k3:=h.n2 mb rfl;have hml:=MpN.lt h.mp;have HH:=Hd h;have okn:=(h.ok n (by omega)).1;have OKN:Hid (i64 (a n).x):=okn;have HEN:Hid (encT (a n)=.iface 277 (.agg #[.int .i64 (a n).x,.int .i64 (a n).a,.int .i64 (a n).b])):=rfl;have e1:((n+1:Nat):Int)-1=(n:Int):=by omega
  have HKF:Hid (∀w1 w2,w1=((w.alloc (.cells #[.int .i64 (a n).x,.int .i64 (a n).a,.int .i64 (a n).b] 277)).setCell ⟨qb,0,none⟩ (.slice (some ⟨gb,0,none⟩) n cap)).drew∨w1=((w.setCell ⟨qb,0,none⟩ (.slice (some ⟨gb,0,none⟩) n cap)).alloc (.cells #[.int .i64 (a n).x,.int .i64 (a n).a,.int .i64 (a n).b] 277)).drew->MpN prog 3 3 .i64 .i64 w1 mb (n+1) g∧(MpN prog 3 3 .i64 .i64 w2 mb (if(g (a n).x).isSome then n+1-1 else n+1) (updI g (a n).x none)->Fr (fun i=>i=mb) w1 w2->HRq qb w2 a n (FQ qb (.slice (some ⟨gb,0,none⟩) (n+1) cap) (some mb))∧Fr (FQ qb (.slice (some ⟨gb,0,none⟩) (n+1) cap) (some mb)) w w2)):=by
   intro w1 w2 hw;have hz:qb<w.heap.size:=lb
   have fq:Fr (fun i=>i=qb) w w1:=by
    rcases hw with rfl|rfl
    .exact(((Fr.refl (fun i=>i=qb) w).alloc _).setCell (p:=⟨qb,0,none⟩) (.inl rfl) _).drew
    .exact(((Fr.refl (fun i=>i=qb) w).setCell (p:=⟨qb,0,none⟩) (.inl rfl) _).alloc _).drew
   have hq:w1.heap[qb]?=(w.setCell ⟨qb,0,none⟩ (.slice (some ⟨gb,0,none⟩) n cap)).heap[qb]?:=by
    rcases hw with rfl|rfl
    .show((w.alloc _).setCell ⟨qb,0,none⟩ _).heap[qb]?=_
     simp only[World.setCell,Array.getElem?_modify,if_true];rw[Below.heap_alloc w _ qb hz]
    .show((w.setCell ⟨qb,0,none⟩ _).alloc _).heap[qb]?=_
     rw[Below.heap_alloc _ _ qb (by simpa using hz)]
   refine⟨MpN.fr HH.out.mp fq (fun q=>k3 q),fun hm f2=>HH.out.cut fq hq f2 ?_⟩;have hg:(g (a n).x).isSome=true:=by rw[(HH.out.pl (a n).x (n:Int)).2 ⟨n,rfl,by omega,rfl⟩];rfl
   rw[if_pos hg,Nat.add_sub_cancel]at hm;exact hm
  rw[HEN.out];clear h okn HEN;generalize hax:(a n).x=ix at*;generalize(a n).a=ia at*;generalize(a n).b=ib at*;have HAX:=Hd hax;clear hax;go_enter func269,ntmps269;go_wp2
  have hW:Hid (∀W,W=((w.setCell ⟨qb,0,none⟩ (.slice (some ⟨gb,0,none⟩) n cap)).alloc (.cells #[.int .i64 ix,.int .i64 ia,.int .i64 ib] 277)).drew->∀W',Fr (fun i=>i=mb) W W'->W'.cell? ⟨qb,1,none⟩=some (.map (some mb))∧W'.cell? ⟨w.heap.size,0,none⟩=some (.int .i64 ix)∧W'.cell? ⟨w.heap.size,1,none⟩=some (.int .i64 ia)∧W'.cell? ⟨w.heap.size,2,none⟩=some (.int .i64 ib)):=by
   rintro W rfl W' f
   have b1:Blk ((w.setCell ⟨qb,0,none⟩ (.slice (some ⟨gb,0,none⟩) n cap)).alloc (.cells #[.int .i64 ix,.int .i64 ia,.int .i64 ib] 277)) w.heap.size 3 (fun i=>if i=0 then .int .i64 ix else if i=1 then .int .i64 ia else .int .i64 ib):=Blk.new _ _ 277 3 _ _ (by simp) rfl (fun i hi=>by
    match i,hi with
    |0,_=>rfl
    |1,_=>rfl
    |2,_=>rfl)
   have b2:=b1.drew.fr f (fun q=>by omega);have hb:=((((HH.out.hd.set 0 (.slice (some ⟨gb,0,none⟩) n cap)).alloc (.cells #[.int .i64 ix,.int .i64 ia,.int .i64 ib] 277)).drew).fr f (fun q=>k3 q.symm)).cell (i:=1) (by omega);exact⟨hb,b2.cell (i:=0) (by omega),b2.cell (i:=1) (by omega),b2.cell (i:=2) (by omega)⟩
  have lt0:w.heap.size<(((w.setCell ⟨qb,0,none⟩ (.slice (some ⟨gb,0,none⟩) n cap)).alloc (.cells #[.int .i64 ix,.int .i64 ia,.int .i64 ib] 277)).drew).heap.size:=by simp
  go_region_held3(fun w'=>w'.cell? ⟨qb,1,none⟩=some (.map (some mb))∧w'.cell? ⟨w.heap.size,0,none⟩=some (.int .i64 ix)∧w'.cell? ⟨w.heap.size,1,none⟩=some (.int .i64 ia)∧w'.cell? ⟨w.heap.size,2,none⟩=some (.int .i64 ib))
   (first|exact HWF.out|exact hW.out _ rfl _ (Fr.refl _ _))
   (first
    |(refine delS MIq (HKF.out _ w (.inr rfl)).1 rfl (.tmp 30) (.tmp 32) rfl (by rfl) (by rfl) OKN.out ?_;intro w9 hm9 f9;have HWF:=Hd (hW.out _ rfl w9 f9);have HEND:=Hd ((HKF.out _ w9 (.inr rfl)).2 hm9 f9);have lt9:w.heap.size<w9.heap.size:=Nat.lt_of_lt_of_le lt0 f9.size;clear hm9 f9))
  all_goals
   obtain⟨y0,y1,y2,y3⟩:=HWF.out;go_wp2;go_returns;exact⟨rfl,HEND.out⟩
theorem q_sys(qb:Nat):HeapSys 270 203 268 271 270 269 ltT (HRq qb) ⟨qb,0,none⟩ encT okT where
 own:=⟨own_ofH func203 (by kernel_rfl) rfl,own_ofH func268 (by kernel_rfl) rfl,own_ofH func271 (by kernel_rfl) rfl,own_ofH func270 (by kernel_rfl) rfl,own_ofH func269 (by kernel_rfl) rfl⟩
 fr:=by
  rintro w w' a n F G⟨lv,mo,g,h,hF⟩f hG;exact⟨lv,mo,g,h.fr f (fun i q=>hG i ((hF i).2 q)),hF⟩
 bd:=by
  rintro w a n F⟨lv,mo,g,h,hF⟩i hi;exact h.lt i ((hF i).1 hi)
 small:=by
  rintro w a n F⟨lv,mo,g,h,hF⟩;exact h.sm
 len:=by
  rintro w a n F⟨lv,mo,g,h,hF⟩;obtain⟨ti,hti,hm⟩:=method_of (P:=prog) (t:=270) (name:= "Len") (f:=203) (b:=true) (by kernel_rfl);exact⟨_,method_ptr hti hm underlying270,(q_len h).mono fun e w' ⟨he,hw⟩=>⟨he,hw▸Fr.refl _ _⟩⟩
 less:=by
  rintro w a n F i j⟨lv,mo,g,h,hF⟩hi hj;obtain⟨ti,hti,hm⟩:=method_of (P:=prog) (t:=270) (name:= "Less") (f:=268) (b:=true) (by kernel_rfl);exact⟨_,method_ptr hti hm underlying270,q_less h hi hj⟩
 swap:=by
  rintro w a n F i j⟨lv,mo,g,h,hF⟩hi hj;obtain⟨ti,hti,hm⟩:=method_of (P:=prog) (t:=270) (name:= "Swap") (f:=271) (b:=true) (by kernel_rfl);refine⟨_,method_ptr hti hm underlying270,(q_swap h hi hj).mono fun e w' ⟨he,⟨lv',mo',g',h',hF'⟩,hf⟩=>⟨he,⟨lv',mo',g',h',fun i=>(hF i).trans (hF' i)⟩,hf.mono (fun i q=>(hF i).2 q)⟩⟩
 push:=by
  rintro w a n F t⟨lv,mo,g,h,hF⟩ht;obtain⟨ti,hti,hm⟩:=method_of (P:=prog) (t:=270) (name:= "Push") (f:=270) (b:=true) (by kernel_rfl);refine⟨_,method_ptr hti hm underlying270,(q_push h ht).mono fun e w' ⟨he,F',h',hf,hF'⟩=>⟨he,F',h',hf.mono (fun i q=>(hF i).2 q),fun i q=>(hF' i q).imp (fun q=>(hF i).2 q) id⟩⟩
 pop:=by
  rintro w a n F⟨lv,mo,g,h,hF⟩;obtain⟨ti,hti,hm⟩:=method_of (P:=prog) (t:=270) (name:= "Pop") (f:=269) (b:=true) (by kernel_rfl);refine⟨_,method_ptr hti hm underlying270,(q_pop h).mono fun e w' ⟨he,⟨lv',mo',g',h',hF'⟩,hf⟩=>⟨he,⟨lv',mo',g',h',fun i=>(hF i).trans (hF' i)⟩,hf.mono (fun i q=>(hF i).2 q)⟩⟩
end
theorem ltT_ord:Ord ltT:=⟨fun x y h=>by rw[ltT_iff]at h;rw[ltT_not];omega,fun x y z h1 h2=>by rw[ltT_not]at*;omega⟩
def QS(w:World)(qb:Nat)(M:Th->Prop)(n:Nat)(F:Nat->Prop):Prop:=∃a,HRq qb w a n F∧IsHeap ltT a n∧∀t,M t↔∃k,k<n∧a k=t
section
variable{w w':World}{qb n:Nat}{a:Nat->Th}{lv:Value}{mo:Option Nat}{g:Int->Option Int}{F:Nat->Prop}{M:Th->Prop}
theorem QS.fr(h:QS w qb M n F){G:Nat->Prop}(f:Fr G w w')(hG:∀i,F i->¬G i):QS w' qb M n F:=by
 obtain⟨a,h,r⟩:=h;exact⟨a,(q_sys qb).fr h f hG,r⟩
theorem QS.fr0(h:QS w qb M n F)(f:Fr NoF w w'):QS w' qb M n F:=h.fr f (fun _ _ q=>q)
theorem QS.lt(h:QS w qb M n F):∀i,F i->i<w.heap.size:=by
 obtain⟨a,h,r⟩:=h;exact(q_sys qb).bd h
theorem QS.congr(h:QS w qb M n F){M':Th->Prop}(e:∀t,M t↔M' t):QS w qb M' n F:=by
 obtain⟨a,h,hh,hM⟩:=h;exact⟨a,h,hh,fun t=>(e t).symm.trans (hM t)⟩
theorem qu_new(w:World):Calls prog 49 #[] w fun e w'=>e=.returned (.pointer (some ⟨w.heap.size,0,none⟩))∧QS w' w.heap.size (fun _=>False) 0 (fun i=>i=w.heap.size)∧Fr NoF w w':=by
 have K:Hid (QS (w.alloc (.cells #[.slice none 0 0,.map none] 189)) w.heap.size (fun _=>False) 0 (fun i=>i=w.heap.size)):=by
  refine⟨fun _=>⟨0,0,0⟩,⟨.slice none 0 0,none,fun _=>none,⟨⟨_,_,heap_alloc_new _ _ _ rfl,rfl,fun i hi=>?_⟩,SlF.nil _ _ _ _,⟨rfl,fun _=>rfl⟩,fun x k=>⟨fun q=>(by cases q),fun⟨j,_,q,_⟩=>(by omega)⟩,fun k q=>(by omega),fun b q=>(by cases q),fun b q=>(by cases q),by omega⟩,fun i=>⟨fun q=>.inl q,fun q=>?_⟩⟩,fun k _ q=>(by omega),fun t=>⟨fun q=>q.elim,fun⟨k,q,_⟩=>(by omega)⟩⟩
  .match i,hi with
   |0,_=>rfl
   |1,_=>rfl
  .rcases q with q|q|q
   .exact q
   .cases q
   .cases q
 go_enter func49,ntmps49;go_wp2;go_returns;exact⟨rfl,K.out,(Fr.refl NoF w).alloc _⟩
theorem qu_len(h:QS w qb M n F):Calls prog 201 #[.pointer (some ⟨qb,0,none⟩)] w fun e w'=>e=.returned (.int .i64 (n:Nat))∧w=w':=by
 obtain⟨a,⟨lv,mo,g,h,hF⟩,_⟩:=h;have HL:=Hd (q_len h);have lb:=h.hd.lt;clear h hF;go_enter func201,ntmps201
 go_wp2_with fail
 refine HL.out.mono ?_;rintro e w1⟨rfl,rfl⟩;go_wp2;go_returns;exact⟨rfl,rfl⟩
theorem qc_find_yes(h:QC w qb a n lv mo g){k:Nat}(hk:k<n):Calls prog 195 #[.pointer (some ⟨qb,0,none⟩),.int .i64 (a k).x] w fun e w'=>e=.returned (.tuple #[.int .i64 k,.bool true])∧w=w':=by
 have c1:=h.c1;have lb:=h.hd.lt;have HX:Hid (g (a k).x=some (k:Int)):=(h.pl (a k).x (k:Int)).2 ⟨k,rfl,hk,rfl⟩;have HW:Hid (i64 (a k).x):=(h.ok k hk).1
 cases mo with
 |none=>have:=h.mp.1;omega
 |some mb=>
  have HM:Hid (MpN prog 3 3 .i64 .i64 w mb n g):=h.mp;generalize(a k).x=x at*;clear h;go_enter func195,ntmps195
  go_wp2_with(at_lookup;go_must(refine wp_lookN_some MIq HM.out HX.out rfl _ _ rfl (by rfl) (by rfl) HW.out ?_))
  go_returns;exact⟨rfl,rfl⟩
theorem qc_find_no(h:QC w qb a n lv mo g){x:Int}(hx:i64 x)(hno:∀k,k<n->¬(a k).x=x):Calls prog 195 #[.pointer (some ⟨qb,0,none⟩),.int .i64 x] w fun e w'=>e=.returned (.tuple #[.int .i64 0,.bool false])∧w=w':=by
 have c1:=h.c1;have lb:=h.hd.lt
 have HX:Hid (g x=none):=by
  cases e:g x with
  |none=>rfl
  |some k=>
   obtain⟨j,_,hj,q⟩:=(h.pl x k).1 e;exact(hno j hj q).elim
 have HW:=Hd hx
 cases mo with
 |none=>
  have hln:∀W:World,(Instr.lookup 185 (.map none) (.int .i64 x) true).run prog W=.ok (.tuple #[.int .i64 0,.bool false]) W:=by
   intro W;have:=Maps.look_nil (P:=prog) (w:=W) true (int_keyed MIq.uk) MIq.ut (MIq.z W) (keyOf_int_mk MIq.uk hx);exact this
  clear h hno hx;go_enter func195,ntmps195;go_wp2;go_returns;exact⟨rfl,rfl⟩
 |some mb=>
  have HM:Hid (MpN prog 3 3 .i64 .i64 w mb n g):=h.mp;clear h hno hx;go_enter func195,ntmps195
  go_wp2_with(at_lookup;go_must(refine wp_lookN_none MIq HM.out HX.out rfl _ _ rfl (by rfl) (by rfl) HW.out ?_))
  go_returns;exact⟨rfl,rfl⟩
theorem qu_least_no(h:QS w qb M 0 F):Calls prog 200 #[.pointer (some ⟨qb,0,none⟩)] w fun e w'=>e=.returned (.tuple #[.int .i64 0,.bool false])∧w=w':=by
 have HL:=Hd (qu_len h);clear h;go_enter func200,ntmps200
 go_wp2_with fail
 refine HL.out.mono ?_;rintro e w1⟨rfl,rfl⟩;go_wp2;go_returns;exact⟨rfl,rfl⟩
def LeastT(M:Th->Prop)(t:Th):Prop:=M t∧∀u,M u->ltT u t=false
theorem qu_least_yes(h:QS w qb M n F)(hn:0<n):∃t,LeastT M t∧Hid (∀W,Fr NoF w W->Calls prog 200 #[.pointer (some ⟨qb,0,none⟩)] W fun e w'=>e=.returned (.tuple #[.int .i64 t.x,.bool true])∧W=w'):=by
 have h0:=h;obtain⟨a,⟨lv,mo,g,h,hF⟩,hh,hM⟩:=h;refine⟨a 0,⟨(hM (a 0)).2 ⟨0,hn,rfl⟩,fun u hu=>?_⟩,fun W f=>?_⟩
 .obtain⟨k,hk,rfl⟩:=(hM u).1 hu
  exact hh.root ltT_ord k hk
 .have HL:=Hd (qu_len (h0.fr0 f))
  have hq:=h.fr0 f;have c0:=hq.c0;have lb:=hq.hd.lt;have hnb:((n:Int)==0)=false:=by simp;omega
  have hnd:(n==0)=false:=by simp;omega
  have hnp:0<(n:Int):=by omega
  obtain⟨gb,cap,rfl,h1,h2,h3,h4,i0,i1,i2⟩:=hq.el hn;rw[Nat.zero_mul]at i0;generalize(a 0).x=ix at*;clear h hq h0 hF hh hM i1 i2 f;go_enter func200,ntmps200
  go_wp2_with fail
  refine HL.out.mono ?_;rintro e w1⟨rfl,rfl⟩;go_wp2;go_returns;exact⟨rfl,rfl⟩
end
end
end Go.Proofs.YtoenclhimbpfeaaGreatDoor
