/-
  LrukNews: of all numbers, New tells whether there may be an LRUK of them. No condition.
-/
import Derived.Deep.Strs
import Derived.Test.YtcccbdnojlmgaaaK30
import Derived.Test.YtcccbdnojlmgaaaK31
import Derived.Test.YtcccbdnojlmgaaaK44
namespace Go.Proofs.Ytcccbdnojlmgaaa
set_option linter.all false
set_option maxHeartbeats 16000000
set_option maxRecDepth 100000
section
open Go.ChangeAt Go.ChangeShapes Go.RowKit Go.WideShapes
section
open Go.Deep
theorem cells_opQ:Try.prog.cellsOf 65=2:=by kernel_rfl
theorem cells_intQ:Try.prog.cellsOf 3=1:=by kernel_rfl
theorem cells_u32Q:Try.prog.cellsOf 35=1:=by kernel_rfl
theorem add_atQ(b off i j:Nat):((({block:=b,off:=off,spot:=none}:Addr).add (i*2)).add j)=⟨b,off+i*2+j,none⟩:=by
 unfold Addr.add;by_cases h1:i*2=0
 .by_cases h2:j=0
  .simp[h1,h2]
  .simp[h1,h2]
 .by_cases h2:j=0
  .simp[h1,h2]
  .simp[h1,h2]
theorem flat2_get:∀{zs:List (Int×Int)} {j:Nat} {u:Value},(zs.flatMap fun z=>[Value.int .i64 z.1,Value.int .u32 z.2])[j]?=some u->∃z,zs[j/2]?=some z∧((j%2=0∧u=.int .i64 z.1)∨(j%2=1∧u=.int .u32 z.2))
 |[],j,u,h=>by simp at h
 |z::zs,0,u,h=>by simp at h;exact⟨z,by simp,.inl ⟨rfl,h.symm⟩⟩
 |z::zs,1,u,h=>by simp at h;exact⟨z,by simp,.inr ⟨rfl,h.symm⟩⟩
 |z::zs,j+2,u,h=>by
  have h:(zs.flatMap fun z=>[Value.int .i64 z.1,Value.int .u32 z.2])[j]?=some u:=by simpa using h
  obtain⟨z',h1,h2⟩:=flat2_get h;exact⟨z',by rw[show(j+2)/2=j/2+1 from by omega];simpa using h1,by rw[show(j+2)%2=j%2 from by omega];exact h2⟩
theorem flat2_len(zs:List (Int×Int)):(zs.flatMap fun z=>[Value.int .i64 z.1,Value.int .u32 z.2]).length=zs.length*2:=by
 induction zs with
 |nil=>rfl
 |cons z zs ih=>simp only[List.flatMap_cons,List.length_append,ih,List.length_cons,List.length_nil];omega
theorem list_two{α:Type}{l:List α}(h:l.length=2):∃a b,l=[a,b]:=by
 match l,h with
 |[a,b],_=>exact⟨a,b,rfl⟩
theorem argQ_of{H:Type}{enc:TypeId×Value->H}{W:World}{base fuel:Nat}{held:Bool}{a1:Option Addr}{len1 cap1:Nat}{x:DataW H×List MemPlace}
  (h:DataW.trod enc Try.prog W base (fun _=>true) held fuel 23 [.slice a1 len1 cap1]=some x):∃zs,ArgQ W (.slice a1 len1 cap1) zs∧zs.length=len1:=by
 rcases open_slice Try.underlying23 h with⟨hcs,_⟩|⟨a,len,cap,m,n,D,Pl,hcs,_,hl,hm,hmm,_,hi⟩
 .simp at hcs
  obtain⟨rfl,rfl,rfl⟩:=hcs;exact⟨[],⟨⟨none,0,rfl,by simp,by unfold maxLen;omega⟩,fun q=>by simp at q,fun z hz=>(by cases hz)⟩,rfl⟩
 .simp at hcs
  obtain⟨rfl,rfl,rfl⟩:=hcs;simp only[if_true]at hmm
  have each:∀i,∃z:Int×Int,i<len1->W.cell? ((a.add (i*2)).add 0)=some (.int .i64 z.1)∧W.cell? ((a.add (i*2)).add 1)=some (.int .u32 z.2)∧0<=z.2∧z.2<4294967296:=by
   intro i;by_cases hil:i<len1
   .obtain⟨cs,hc,ht⟩:=hi i (by omega)
    rw[cells_opQ]at hc;obtain⟨_,hlen,hat⟩:=World.cells?_some hc;obtain⟨y0,y1,n',_,_,t0,t1⟩:=trod_struct2 Try.underlying65 ht;obtain⟨v0,v1,rfl⟩:=list_two hlen;have g0:=hat 0 (by omega);have g1:=hat 1 (by omega);simp only[cells_intQ,cells_u32Q,List.drop_zero,List.drop_succ_cons,List.take_succ_cons,List.take_zero]at t0 t1;obtain⟨z0,e0,_,_⟩:=DataW.trod_int Try.underlying3 t0;obtain⟨z1,e1,_,wf⟩:=DataW.trod_int Try.underlying35 t1;simp at e0 e1;subst e0 e1
    have hr:0<=z1∧z1<4294967296:=by
     have h1:IntKind.u32.min<=z1∧z1<=IntKind.u32.max:=by simpa[Lit.wf]using wf
     have e1:IntKind.u32.min=0:=rfl;have e2:IntKind.u32.max=4294967295:=rfl;omega
    exact⟨(z0,z1),fun _=>⟨g0,g1,hr⟩⟩
   .exact⟨(0,0),fun h=>(hil h).elim⟩
  obtain⟨f,hf⟩:=Classical.skolem.1 each;have hzl:((List.range len1).map f).length=len1:=by simp
  refine⟨(List.range len1).map f,⟨⟨some a,cap1,by rw[hzl],by rw[hzl];exact hl,hm⟩,fun h0=>?_,fun z hz=>?_⟩,hzl⟩
  .rw[hzl]at h0
   refine⟨some a,cap1,by rw[hzl],flat2_len _,fun u hu=>?_,by rw[hzl];exact hl,hm,?_⟩
   .obtain⟨z,_,hz⟩:=List.mem_flatMap.1 hu
    simp at hz;rcases hz with rfl|rfl<;>rfl
   .obtain⟨b,off,spot⟩:=a
    have c0:=(hf 0 h0).1
    have hs:spot=none:=by
     cases spot with
     |none=>rfl
     |some q=>
      simp only[Nat.zero_mul,Addr.add,World.cell?]at c0
      split at c0<;>simp at c0
    subst hs;rw[add_atQ]at c0;refine .inr ⟨b,off,rfl,by have:=World.block_lt_of_cell? (w:=W) (a:=⟨b,off+0*2+0,none⟩) c0;exact this,fun j u hj=>?_⟩;obtain⟨z,hz,hu⟩:=flat2_get hj;rw[List.getElem?_map]at hz
    have hjl:j/2<len1:=by
     rcases Nat.lt_or_ge (j/2) len1 with q|q
     .exact q
     .rw[List.getElem?_eq_none (by simpa using q)]at hz;cases hz
    rw[List.getElem?_range hjl]at hz;obtain rfl:f (j/2)=z:=by simpa using hz
    have hh:=hf (j/2) hjl;rw[add_atQ,add_atQ]at hh;rcases hu with⟨q,rfl⟩|⟨q,rfl⟩
    .have:off+j/2*2+0=off+j:=by omega
     rw[this]at hh;exact hh.1
    .have:off+j/2*2+1=off+j:=by omega
     rw[this]at hh;exact hh.2.1
  .obtain⟨i,hi',rfl⟩:=List.mem_map.1 hz
   exact(hf i (List.mem_range.1 hi')).2.2
end
end
section
open Go.RowKit
theorem Good.inv{τ:Type}{Q:Pol τ}{pre:τ->Cl->Prop}{I:τ->Prop}{B:Nat}(hI:∀t c,I t->I (Q.next t c))(hB:∀t,I t->(Q.ghosts t).length<=B):∀{cs:List Cl} {t:τ},I t->Good Q pre t cs->∀c∈cs,c.ghosts.length<=B
 |[],_,_,_,c,hc=>by cases hc
 |a::cs,t,ht,hg,c,hc=>by
  obtain⟨_,_,_,_,_,g1,_,_,g2⟩:=hg;rcases List.mem_cons.1 hc with e|hc'
  .rw[e,<-g1.length_eq];exact hB _ (hI t a ht)
  .exact Good.inv hI hB (hI t a ht) g2 c hc'
theorem acc_old(s:LK)(f p:Nat):(accS s f p).Old.length<=s.Old.length∧(accS s f p).kept=s.kept:=by
 have hw:(woO s.Old p).length<=s.Old.length:=List.length_filter_le _ _;unfold accS rerS touS comS
 split<;>split<;>first|exact⟨hw,rfl⟩|exact⟨Nat.le_refl _,rfl⟩
theorem set_old(s:LK)(f:Nat)(on:Bool):(setS s f on).Old=s.Old∧(setS s f on).kept=s.kept:=by
 unfold setS
 split
 .exact⟨rfl,rfl⟩
 .split<;>exact⟨rfl,rfl⟩
theorem vic_old(s:LK)(x:Nat)(Fb:Nat->Bool)(h:s.Old.length<=s.kept):(vicS s x Fb).Old.length<=s.kept∧(vicS s x Fb).kept=s.kept:=by
 unfold vicS remS
 split
 .refine⟨?_,rfl⟩
  show(s.Old++[_]).tail.length<=s.kept
  rw[List.length_tail,List.length_append];simp;omega
 .rename_i hk
  refine⟨?_,rfl⟩
  show(s.Old++[_]).length<=s.kept
  have hk:¬s.kept<(s.Old++[_]).length:=hk;omega
open Classical in
theorem polL_inv(kept:Nat)(t:LK)(c:Cl)(h:t.Old.length<=kept∧t.kept=kept):(polL.next t c).Old.length<=kept∧(polL.next t c).kept=kept:=by
 unfold Pol.next
 split
 .exact h
 .split
  .have:=acc_old t c.frame c.page
   exact⟨Nat.le_trans this.1 h.1,this.2.trans h.2⟩
  .split
   .have:=set_old t c.frame c.on
    exact⟨by show(setS t c.frame c.on).Old.length<=kept;rw[this.1];exact h.1,this.2.trans h.2⟩
   .split
    .split
     .exact h
     .show((if h:∃x,Goes t x then({vicS t h.choose t.Fa with Fa:=fun _=>false}:LK)else t)).Old.length<=kept∧(if h:∃x,Goes t x then({vicS t h.choose t.Fa with Fa:=fun _=>false}:LK)else t).kept=kept
      by_cases he:∃x,Goes t x
      .rw[dif_pos he]
       have:=vic_old t he.choose t.Fa (by rw[h.2];exact h.1);rw[h.2]at this;exact this
      .rw[dif_neg he];exact h
    .exact h
theorem rep_getD(n f:Nat):(List.replicate n 0).getD f 0=0:=by
 rw[List.getD_eq_getElem?_getD,List.getElem?_replicate]
 split<;>rfl
theorem CRep.inside{w:World}{v:Value}{cs:List Cl}{X:Nat->Prop}(h:CRep w v cs X):CRep w v cs (fun i=>X i∧i<w.heap.size):=by
 obtain⟨gs,h1,h2,h3,h4⟩:=h;exact⟨gs,h1,h2,fun i c g e1 e2=>⟨(h3 i c g e1 e2).1,fun b hb=>⟨(h3 i c g e1 e2).2 b hb,(h3 i c g e1 e2).1.lt b hb⟩⟩,fun b hb=>⟨h4 b hb,h2.lt b hb⟩⟩
theorem newS_cr{w:World}{b n K near kept:Nat}{F:Nat->Prop}(h:CRL w b (newS n K near kept) F):CR5 b w (newS n K near kept) F:=by
 refine⟨by show(0:Nat)<800000;omega,fun _=>false,fun x a b hR=>?_,h⟩
 cases hR
theorem inv5_new(n K kept:Nat)(hK:1<=K):Inv5 K kept n ⟨List.replicate n 0,fun _=>false,[],[],0⟩:=by
 have hp:∀f,S5.pg ⟨List.replicate n 0,fun _=>false,[],[],0⟩ f=0:=fun f=>rep_getD n f
 exact⟨by simp,hK,fun a ha=>(by cases ha),Nat.le_refl _,List.nodup_nil,List.nodup_nil,fun f q=>(q (hp f)).elim,fun x hx=>(by cases hx),fun f g _ q=>(q (hp f)).elim,fun f q=>(by cases q),List.nodup_nil,Nat.zero_le _⟩
theorem rs5_new(n K near kept:Nat)(hK:1<=K):RS5 K near kept n 0 ⟨List.replicate n 0,fun _=>false,[],[],0⟩ (newS n K near kept) (List.replicate n 0):=by
 have hp:∀f,S5.pg ⟨List.replicate n 0,fun _=>false,[],[],0⟩ f=0:=fun f=>rep_getD n f
 refine⟨inv5_new n K kept hK,rfl,rfl,rfl,rfl,rfl,rfl,Nat.le_refl _,Nat.le_refl _,fun f=>?_,fun f q=>(q (hp f)).elim,fun x=>rfl,fun f=>?_,rfl,?_⟩
 .rw[hp];rfl
 .show none=keyD K _ f
  unfold keyD okF;simp
 .show 0=cntR (fun _=>none) n
  clear hp
  induction n with
  |zero=>rfl
  |succ n ih=>unfold cntR;rw[<-ih];rfl
theorem playsL_walk(h0 h1 h2 h3 a2:Int)(v:Value)(zs:List (Int×Int))(w:World)(hv:ArgQ w v zs):
  Calls Try.prog 3 #[.agg #[.int .i64 h0,.int .i64 h1,.int .i64 h2,.int .i64 h3],v,.int .i64 a2] w fun e w'=>e=.returned (.bool true)∧Fr NoF w w':=by
 obtain⟨n,hn1,hn2,en⟩:=modk1 h0 (k:=7) (by decide) (by decide);obtain⟨K,hK1,hK2,eK⟩:=modk1 h1 (k:=4) (by decide) (by decide);obtain⟨near,hi2,ei⟩:=modk h2 (k:=6) (by decide) (by decide);obtain⟨kept,ho2,eo⟩:=modk h3 (k:=9) (by decide) (by decide);have EK:=Lib.hid eK;obtain⟨m,hm1,hm2,em⟩:=modk1 a2 (k:=12) (by decide) (by decide);obtain⟨sa,sc,rfl,_,_⟩:=hv.1;have HV:=Lib.hid hv;have EN:=Lib.hid en;have EM:=Lib.hid em;have EI:=Lib.hid ei;have EO:=Lib.hid eo
 have N:Hid (∀w',Fr NoF w w'->Calls Try.prog 5 #[.int .i64 n,.int .i64 K,.int .i64 near,.int .i64 kept] w' fun e w''=>∃b F,e=.returned (.tuple #[.pointer (some ⟨b,0,none⟩),.int .i64 0])∧CR5 b w'' (newS n K near kept) F∧(∀i,F i->w.heap.size<=i)∧Fr NoF w w''):=by
  intro w' f;exact(crl_new n K near kept w' (by omega) (by omega) (by omega) (by omega)).mono fun e w'' ⟨b,F,he,h1,h2,h3⟩=>⟨b,F,he,newS_cr h1,fun i q=>Nat.le_trans f.size (h2 i q),f.trans h3 (fun _ q=>q.elim)⟩
 clear en em hv ei eo eK;go_enter Try.func3,Try.ntmps3;go_wp2
 go_quiet (fail)
 go_wp2
 go_quiet (fail)
 go_wp2_with fail
 rw[EN.out,EK.out,EI.out,EO.out,EM.out];refine(N.out _ (by repeat(first|exact Fr.refl NoF _|apply Fr.drewN|apply Fr.drew|apply Fr.alloc))).mono ?_;clear N;rintro e w1⟨b,F,rfl,hR1,hF,hf1⟩;have HF:=Lib.hid hF;have HR1:=Lib.hid hR1;have HF1:=Lib.hid hf1;clear hF hR1 hf1
 go_wp2_with fail
 refine(toldK_calls _).mono ?_;rintro e w2⟨rfl,hf2⟩;have HR2:=Lib.hid ((cod5 b).fr HR1.out hf2 (fun _ _ q=>q));have HF2:=Lib.hid (HF1.out.trans hf2 (fun _ q=>q.elim));clear hf2 HR1 HF1;have HN:=Lib.hid (s5_new n K near kept w2 (by omega) (by omega) (by omega) (by omega))
 go_wp2_with fail
 refine HN.out.mono ?_;clear HN;rintro e w3⟨pb,Fp,Dp,rfl,hP3,hD3,hf3⟩;have HR3:=Lib.hid ((cod5 b).fr HR2.out hf3 (fun _ _ q=>q));have HF3:=Lib.hid (HF2.out.trans hf3 (fun _ q=>q.elim));have HP3:=Lib.hid hP3;have HD3:=Lib.hid hD3;have HFb:=Lib.hid (fun i hi=>(cod5 b).lt HR2.out i hi);have HSZ:=Lib.hid (And.intro HF2.out.size hf3.size);clear hf3 hP3 hD3 HR2 HF2;have HV3:Hid (ArgQ w3 (.slice sa zs.length sc) zs):=HV.out.keep HF3.out;have HX:=Lib.hid (Fix_walk HV3.out hm1 (by omega))
 go_wp2_with fail
 refine HX.out.mono ?_;clear HX;rintro e w4⟨out_4,rfl,l,hl,hlo,hA,hob,hf4⟩;have HLL:=Lib.hid hl;have HR4:=Lib.hid ((cod5 b).fr HR3.out hf4 (fun _ _ q=>q));have HF4:=Lib.hid (HF3.out.trans hf4 (fun _ q=>q.elim));have HP4:=Lib.hid ((PR5_fr:PFr (PR5 pb K near kept n)).fr HP3.out hf4 (fun _ _ q=>q));have HDl:=Lib.hid ((PR5_fr:PFr (PR5 pb K near kept n)).lt HP3.out);have HS4:=Lib.hid hf4.size;have HO:=Lib.hid hob;have HL:=Lib.hid hlo;have HA:=Lib.hid hA;have hops:∀o∈l,o.1<4∧1<=o.2∧o.2<4294967296:=fun o ho=>by have:=hlo o ho;exact⟨this.1,this.2.1,by omega⟩
 have HOPS:=Lib.hid hops;have hI0:=inv5_new n K kept hK1;have hco:co5 K kept n 0 ⟨List.replicate n 0,fun _=>false,[],[],0⟩ (List.replicate n 0):=⟨hI0,rfl,Nat.le_refl _,by show 0<=1000;omega⟩;have hrs:=rs5_new n K near kept hK1;have HRUN:=Lib.hid (Run_walkK (sys5 (pb:=pb) (K:=K) (near:=near) (kept:=kept) (n:=n) (by omega) (by omega) (by omega)) HP4.out hco (by omega) HA.out (fun b hb hd=>by have:=HO.out b hb;have:=HDl.out b hd;omega) (by omega) HOPS.out);have hsim:=(sim5 K near kept n (by omega) (by omega)).run (ops:=l) (kk:=0) (s:=⟨List.replicate n 0,fun _=>false,[],[],0⟩) (t:=newS n K near kept) (fr:=List.replicate n 0) hrs (by have:=HLL.out;omega) HOPS.out;have hlen:=(polD K near kept n).run_len ⟨List.replicate n 0,fun _=>false,[],[],0⟩ (List.replicate n 0) l;obtain⟨oa,oc,rfl,_,_⟩:=hA.shape;have HSIM:=Lib.hid hsim;clear hf4 HR3 HF3 HP3 hob hlo hA hops hsim hco hrs HV3
 go_wp2_with fail
 refine HRUN.out.mono ?_;clear HRUN;rintro e w5⟨out_,rfl,fb,hb,fr,hd,hst⟩;have hff:Fr Dp w4 w5:=by obtain⟨_,_,_,h⟩:=hst;exact h.ff
 have hFD:∀i,F i->¬Dp i:=fun i hi hd=>by have:=HFb.out i hi;have:=HD3.out i hd;omega
 have HR5:=Lib.hid ((cod5 b).fr HR4.out hff hFD);have HF5:=Lib.hid (HF4.out.trans hff (fun i hi=>.inr (by have:=HD3.out i hi;have:=HSZ.out;omega)));have HCR:=Lib.hid (CRep.of hst).inside;have h45:=hff.size
 have HDX:Hid (∀i,((Dp i∨w4.heap.size<=i)∧i<w5.heap.size)->¬F i):=fun i hi hfi=>by
  have h1:=HFb.out i hfi;have h2:=HSZ.out;have h3:=HS4.out;rcases hi.1 with q|q
  .have:=HD3.out i q;omega
  .omega
 have hcl:((polD K near kept n).run ⟨List.replicate n 0,fun _=>false,[],[],0⟩ (List.replicate n 0) l).2.2.length<1000000:=by omega
 have HCL:=Lib.hid hcl;have HLE:Hid (∀c∈((polD K near kept n).run ⟨List.replicate n 0,fun _=>false,[],[],0⟩ (List.replicate n 0) l).2.2,c.ghosts.length<=kept):=Good.inv (I:=fun t:LK=>t.Old.length<=kept∧t.kept=kept) (fun t c q=>polL_inv kept t c q) (fun t q=>by show(t.Old.map (·.1)).length<=kept;rw[List.length_map];exact q.1) ⟨Nat.zero_le _,rfl⟩ HSIM.out.1;clear hst hff hFD HR4 HF4 h45 hlen;generalize((polD K near kept n).run ⟨List.replicate n 0,fun _=>false,[],[],0⟩ (List.replicate n 0) l).2.2=cs at*;obtain⟨va,vc,rfl,hvl,hvm⟩:∃a c,out_=.slice a cs.length c∧cs.length<=c∧c<=maxLen:=by obtain⟨gs,_,h2,_,_⟩:=HCR.out;exact h2.shape
 unfold maxLen at hvm;go_wp2
 go_loopw [15] (fun i wr=>∃k:Nat,k<=cs.length∧i=.int .i64 k∧Fr NoF w5 wr) (fun i _=>cs.length-(intOf i).toNat)
 case atStart=>exact⟨0,Nat.zero_le _,rfl,Fr.refl _ _⟩
 case round=>
  obtain⟨k,hk,rfl,hfk⟩:=hrel;by_cases hlt:k<cs.length
  .have hv1:=HCR.out.fr hfk (fun _ _ q=>q)
   obtain⟨bv,off,cv',gv,ev',_,_,hbv,hcell,hgv,hgX,hbX⟩:=hv1.at hlt;simp only[Value.slice.injEq]at ev';obtain⟨rfl,_,rfl⟩:=ev';have c6:wr.cell? ⟨bv,off+k*7+6,none⟩=some gv:=hcell 6 _ rfl;obtain⟨ga,gc,rfl,_,_⟩:=hgv.shape;have hle:=HLE.out cs[k] (List.getElem_mem hlt);generalize cs[k].ghosts.length=gl at*;have HFK:=Lib.hid hfk;clear hv1 hcell hgv hgX hfk;go_wp2
   go_roundw
   case rel=>exact⟨k+1,by omega,by go_num,HFK.out⟩
   case measure=>first|(simp[intOf];done)|(simp[intOf];omega)
  .obtain rfl:k=cs.length:=by omega
   have HFK:=Lib.hid hfk;have HNO:=Lib.hid (Nones_walk (HCR.out.fr hfk (fun _ _ q=>q)) hcl HSIM.out.2.1.at);clear hcl hfk
   go_wp2_with fail
   refine HNO.out.mono ?_;clear HNO;rintro e w6⟨rfl,hf6⟩;have HR6:Hid (CR5 b w6 (newS n K near kept) F):=(cod5 b).fr ((cod5 b).fr HR5.out HFK.out (fun _ _ q=>q)) hf6 (fun _ _ q=>q);have HC6:=Lib.hid ((HCR.out.fr HFK.out (fun _ _ q=>q)).fr hf6 (fun _ _ q=>q));have HF6:=Lib.hid ((HF5.out.trans HFK.out (fun _ q=>q.elim)).trans hf6 (fun _ q=>q.elim));have HRE:=Lib.hid (Replay_walk (cod5 b) HR6.out HC6.out HDX.out (fun i hi=>Nat.lt_of_lt_of_le hi.2 (Nat.le_trans HFK.out.size hf6.size)) HCL.out HSIM.out.1);clear hf6 HR5 HF5 HCR
   go_wp2_with fail
   refine HRE.out.mono ?_;clear HRE;rintro e w7⟨rfl,F',_,hf7,_⟩;have HF7:=Lib.hid (HF6.out.trans hf7 (fun i hi=>.inr (HF.out i hi)));clear hf7;go_wp2;go_returns;exact⟨rfl,HF7.out⟩
end
section
open Go.ChangeAt Go.ChangeShapes Go.RowKit Go.WideShapes
namespace lrukPlays
theorem cellsI:Try.prog.cellsOf 3=1:=by kernel_rfl
theorem cellsA:Try.prog.cellsOf 22=4:=by kernel_rfl
theorem list4{α:Type}(l:List α)(h:(⟨l⟩:Array α).size=4):∃a b c d,l=[a,b,c,d]:=by
 have h:l.length=4:=h
 cases l with
 |nil=>simp at h
 |cons a l=>
  cases l with
  |nil=>simp at h
  |cons b l=>
   cases l with
   |nil=>simp at h
   |cons c l=>
    cases l with
    |nil=>simp at h
    |cons d l=>
     cases l with
     |nil=>exact⟨a,b,c,d,rfl⟩
     |cons e l=>simp at h
theorem open4{H:Type}{enc:TypeId×Value->H}{W:World}{base:Nat}{sp:Nat->Bool}{held:Bool}{v:Value}{d:DataW H}{p:List MemPlace}(hval:Value.okWide Try.prog W .any base 22 v)(h:DataW.Trod enc Try.prog W 0 sp held 22 v d p):
  ∃x0 x1 x2 x3:Int,v=.agg #[.int .i64 x0,.int .i64 x1,.int .i64 x2,.int .i64 x3]∧d=.agg [.lit (.int .i64 x0),.lit (.int .i64 x1),.lit (.int .i64 x2),.lit (.int .i64 x3)]∧p=[]∧(Lit.int .i64 x0).wf=true∧(Lit.int .i64 x1).wf=true∧(Lit.int .i64 x2).wf=true∧(Lit.int .i64 x3).wf=true:=by
 obtain⟨cs,rfl,hsz,_⟩:∃cs,v=.agg cs∧cs.size=Try.prog.cellsOf 22∧Row.okWide Try.prog W .any base 22 cs:=by
  simpa[Value.okWide,Try.underlying22]using hval
 rw[cellsA]at hsz;obtain⟨l⟩:=cs;obtain⟨c0,c1,c2,c3,rfl⟩:=list4 l hsz;obtain⟨fuel,hf⟩:=h;obtain⟨y0,y1,y2,y3,m,hx,hy0,hy1,hy2,hy3⟩:=trod_array4 Try.underlying22 cellsI hf;obtain⟨x0,e0,rfl,w0⟩:=DataW.trod_int Try.underlying3 hy0;obtain⟨x1,e1,rfl,w1⟩:=DataW.trod_int Try.underlying3 hy1;obtain⟨x2,e2,rfl,w2⟩:=DataW.trod_int Try.underlying3 hy2;obtain⟨x3,e3,rfl,w3⟩:=DataW.trod_int Try.underlying3 hy3;simp at e0 e1 e2 e3;subst e0 e1 e2 e3;simp only[Prod.mk.injEq]at hx;obtain⟨rfl,rfl⟩:=hx;exact⟨x0,x1,x2,x3,rfl,rfl,rfl,w0,w1,w2,w3⟩
theorem shut4{H:Type}{enc:TypeId×Value->H}(W:World)(base:Nat)(sp:Nat->Bool)(held:Bool){x0 x1 x2 x3:Int}(w0:(Lit.int .i64 x0).wf=true)(w1:(Lit.int .i64 x1).wf=true)(w2:(Lit.int .i64 x2).wf=true)(w3:(Lit.int .i64 x3).wf=true):
  DataW.Trod enc Try.prog W base sp held 22 (.agg #[.int .i64 x0,.int .i64 x1,.int .i64 x2,.int .i64 x3]) (.agg [.lit (.int .i64 x0),.lit (.int .i64 x1),.lit (.int .i64 x2),.lit (.int .i64 x3)]) []:=
 ⟨2,by simp[DataW.trod,Value.cells,Try.underlying22,Try.underlying3,cellsI,cellsA,w0,w1,w2,w3,List.range,List.range.loop]⟩
theorem own:ownKnob Try.prog.godebug=none:=by kernel_rfl
theorem laidOut:laidOutB Try.prog=true:=by kernel_rfl
theorem lifted(os:Os)(started:os.Started)(H:Type)(enc:TypeId×Value->H):
  ReturnsInHanded {} Try.checked os 3 .any (Rows.lrukPlaysSpec.pre6 enc Try.prog Try.f3 Rows.lrukPlaysRow.domain false) (Rows.lrukPlaysSpec.post enc Try.prog Try.f3 false true false false):=by
 refine returnsInHanded_of_change (C:=Try.checked) own started (by kernel_rfl) Try.func3
  (ChangeSpec.witness6 (enc:=enc) (C:=Try.checked) false ⟨#[],#[.agg #[.int .i64 0,.int .i64 0,.int .i64 0,.int .i64 0],.slice none 0 0,.int .i64 0],[]⟩ 8 (by kernel_rfl) (by kernel_rfl) (by kernel_rfl) (by kernel_rfl)) ?_
 intro W base args ds gs before hval0 hW hcnd _;have hval:∀(j:Nat) t v,Try.f3.params[j]?=some t->args[j]?=some v->Value.okWide Try.prog W .any base t v:=hval0;have hW':=hW;obtain⟨p,q,hA0,hV,rfl,hfz,hnd⟩:=hW;have hA:DataW.TrodAll enc Try.prog W 0 (fun _=>true) true Try.f3.params.toList args.toList ds p:=hA0;rw[Try.params3]at hA hval;obtain⟨v0,vs0,d0,ds0,p0,q0,hargs,rfl,rfl,h0,r0⟩:=trodAll_cons hA;obtain⟨v1,vs1,d1,ds1,p1,q1,rfl,rfl,rfl,h1,r1⟩:=trodAll_cons r0;obtain⟨v2,vs2,d2,ds2,p2,q2,rfl,rfl,rfl,h2,r2⟩:=trodAll_cons r1;obtain⟨rfl,rfl,rfl⟩:=trodAll_nil r2;obtain rfl:args=#[v0,v1,v2]:=by cases args;simp_all
 obtain⟨rfl,rfl⟩:=trodVars_none hV;obtain⟨x0,x1,x2,x3,rfl,rfl,rfl,w0,w0',w0'',w0'''⟩:=open4 (hval 0 22 v0 rfl rfl) h0;obtain⟨a1,len1,cap1,rfl⟩:=okWide_slice Try.underlying23 (hval 1 23 v1 rfl rfl);obtain⟨a2,rfl,rfl,rfl,w2⟩:=open_int Try.underlying3 (hval 2 3 v2 rfl rfl) h2;have k1:=h1;have lt1:∀x∈p1,x.block<W.heap.size:=by obtain⟨m,hm⟩:=k1;exact DataW.trod_lt m _ _ _ hm
 obtain⟨zs,wz,_⟩:∃zs,ArgQ W (.slice a1 len1 cap1) zs∧zs.length=len1:=by
  obtain⟨fuel,hf⟩:=h1;exact argQ_of hf
 clear hA0 hval0;refine(playsL_walk x0 x1 x2 x3 a2 _ zs W wz).mono fun e W' ⟨he,hf⟩=>?_
 have bel:=hf.below;subst he;exact⟨_,rfl,_,_,_,[],_,[],hW',trodAll_mk1 (shut_bool Try.underlying4 _),(trodAll_cons_mk (shut4 W' _ _ _ w0 w0' w0'' w0''') (trodAll_cons_mk (Below.trod laidOut (by kernel_rfl) (of_decide_eq_true (by kernel_rfl)) k1 bel lt1) (trodAll_cons_mk (shut_int Try.underlying3 w2) trodAll_mk0))),rfl,bel.frame _,fun h=>by cases h⟩
theorem proved:Rows.LrukPlaysSaid:=
 OpenClaim.holds_of_wide 3 Try.f3 rfl rfl rfl rfl rfl rfl rfl ⟨rfl,rfl,rfl,rfl,rfl⟩ rfl rfl rfl rfl rfl (by kernel_rfl) Try.func3 (by kernel_rfl)
  (of_decide_eq_true (by kernel_rfl)) (by unfold Func.isWrapper;first|(rw[if_pos (by decide+kernel)];kernel_rfl)|(rw[if_neg (by decide+kernel)];exact⟨rfl,rfl⟩))
  (fun os started H enc _=>lifted os started H enc)
#print axioms proved
end lrukPlays
end
end Go.Proofs.Ytcccbdnojlmgaaa
