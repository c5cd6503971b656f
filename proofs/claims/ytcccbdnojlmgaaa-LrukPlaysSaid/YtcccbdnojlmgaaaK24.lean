/- Part 24. -/
import Derived.Test.YtcccbdnojlmgaaaK23
import Derived.Deep.RegionHeld3
import Derived.BigQuiet
namespace Go.Proofs.Ytcccbdnojlmgaaa
set_option linter.all false
set_option maxHeartbeats 16000000
set_option maxRecDepth 100000
section
open Go.RowKit
def CRep(w:World)(v:Value)(cs:List Cl)(X:Nat->Prop):Prop:=
 ∃gs,gs.length=cs.length∧SlC w 7 v cs.length (flatC cs gs)∧(∀(i:Nat) (c:Cl) (g:Value),cs[i]?=some c->gs[i]?=some g->SlK .u32 w g c.ghosts∧∀b,g.ownBlock=some b->X b)∧∀b,v.ownBlock=some b->X b
theorem CRep.fr{w w':World}{v:Value}{cs:List Cl}{X G:Nat->Prop}(h:CRep w v cs X)(f:Fr G w w')(hX:∀i,X i->¬G i):CRep w' v cs X:=by
 obtain⟨gs,h1,h2,h3,h4⟩:=h;exact⟨gs,h1,h2.fr f (fun b hb=>hX b (h4 b hb)),fun i c g e1 e2=>⟨(h3 i c g e1 e2).1.fr f (fun b hb=>hX b ((h3 i c g e1 e2).2 b hb)),(h3 i c g e1 e2).2⟩,h4⟩
theorem CRep.of{σ:Type}{PR:PRel σ}{w0 w:World}{F0:Nat->Prop}{n fb hb:Nat}{s:σ}{fr:List Nat}{hd:Nat->Bool}{cs:List Cl}{out:Value}(h:St PR w0 F0 n fb hb w s fr hd cs out):CRep w out cs (fun b=>F0 b∨w0.heap.size<=b):=by
 obtain⟨F,D,gs,h⟩:=h;refine⟨gs,h.gl,SlC.ofOwn h.own (flatC_one (fun g hg=>?_)),fun i c g h1 h2=>⟨(h.gh i c g h1 h2).1,fun b hb=>((h.gh i c g h1 h2).2 b hb).2⟩,fun b hb=>.inr (ownBlock_own h.own b hb)⟩;obtain⟨i,hi⟩:=List.getElem?_of_mem hg;have hil:i<cs.length:=by have:=(List.getElem?_eq_some_iff.1 hi).1;have:=h.gl;omega
 obtain⟨a,c,rfl,_,_⟩:=(h.gh i cs[i] g (List.getElem?_eq_getElem hil) hi).1.shape;rfl
theorem CRep.at{w:World}{v:Value}{cs:List Cl}{X:Nat->Prop}(h:CRep w v cs X){i:Nat}(hi:i<cs.length):∃b off c gv,v=.slice (some ⟨b,off,none⟩) cs.length c∧cs.length<=c∧c<=maxLen∧b<w.heap.size∧
  (∀j u,(clCells cs[i] gv)[j]?=some u->w.cell? ⟨b,off+i*7+j,none⟩=some u)∧SlK .u32 w gv cs[i].ghosts∧(∀b,gv.ownBlock=some b->X b)∧X b:=by
 obtain⟨gs,h1,h2,h3,h4⟩:=h;obtain⟨b,off,c,rfl,q1,q2,hb,hc⟩:=h2.at hi (by omega);have hg:i<gs.length:=by omega
 have e1:cs[i]?=some cs[i]:=List.getElem?_eq_getElem hi;have e2:gs[i]?=some gs[i]:=List.getElem?_eq_getElem hg;refine⟨b,off,c,gs[i],rfl,q1,q2,hb,fun j u hj=>?_,(h3 i _ _ e1 e2).1,(h3 i _ _ e1 e2).2,h4 b rfl⟩;have hj7:j<7:=by have:=(List.getElem?_eq_some_iff.1 hj).1;simpa[clCells]using this
 have:=hc (i*7+j) u (by rw[flatC_get e1 e2 hj7];exact hj);rw[<-Nat.add_assoc]at this;exact this
section
variable{τ:Type}(P:Pol τ)
def Pol.next(s:τ)(c:Cl):τ:=
 if c.kind=0 then P.miss s c.page else if c.kind=1 then P.access s c.frame c.page else if c.kind=2 then P.set s c.frame c.on
 else if c.kind=3 then(if P.victim s c.page=none then s else P.gone s c.page)else P.remove s c.frame
def Pol.nexts(s:τ)(cs:List Cl):τ:=cs.foldl P.next s
def Good(pre:τ->Cl->Prop):τ->List Cl->Prop
 |_,[]=>True
 |s,c::cs=>c.kind<5∧pre s c∧(c.kind=3->c.want=fstI (P.victim s c.page))∧P.size (P.next s c)=c.size∧c.size<1000000∧(P.ghosts (P.next s c)).Perm c.ghosts∧c.ghosts.Nodup∧c.ghosts.length<1000000∧Good pre (P.next s c) cs
end
structure CodSys{τ:Type}(P:Pol τ)(CR:World->τ->(Nat->Prop)->Prop)(b:Nat)(pre:τ->Cl->Prop):Prop where
 fr:∀{w w':World} {s:τ} {F G:Nat->Prop},CR w s F->Fr G w w'->(∀i,F i->¬G i)->CR w' s F
 lt:∀{w:World} {s:τ} {F:Nat->Prop},CR w s F->∀i,F i->i<w.heap.size
 miss:∀{w:World} {s:τ} {F:Nat->Prop} {c:Cl},CR w s F->pre s c->c.kind=0->
  Calls Try.prog 14 #[.pointer (some ⟨b,0,none⟩),.int .u32 c.page] w fun e w'=>e=.returned (.tuple #[])∧∃F',CR w' (P.miss s c.page) F'∧Fr F w w'∧∀i,F' i->F i∨w.heap.size<=i
 access:∀{w:World} {s:τ} {F:Nat->Prop} {c:Cl},CR w s F->pre s c->c.kind=1->
  Calls Try.prog 15 #[.pointer (some ⟨b,0,none⟩),.int .i64 c.frame,.int .u32 c.page] w fun e w'=>e=.returned (.tuple #[])∧∃F',CR w' (P.access s c.frame c.page) F'∧Fr F w w'∧∀i,F' i->F i∨w.heap.size<=i
 set:∀{w:World} {s:τ} {F:Nat->Prop} {c:Cl},CR w s F->pre s c->c.kind=2->
  Calls Try.prog 16 #[.pointer (some ⟨b,0,none⟩),.int .i64 c.frame,.bool c.on] w fun e w'=>e=.returned (.tuple #[])∧∃F',CR w' (P.set s c.frame c.on) F'∧Fr F w w'∧∀i,F' i->F i∨w.heap.size<=i
 victimNo:∀{w:World} {s:τ} {F:Nat->Prop} {c:Cl},CR w s F->pre s c->c.kind=3->P.victim s c.page=none->
  Calls Try.prog 17 #[.pointer (some ⟨b,0,none⟩),.int .u32 c.page] w fun e w'=>e=.returned (.tuple #[.int .i64 0,.bool false])∧∃F',CR w' s F'∧Fr F w w'∧∀i,F' i->F i∨w.heap.size<=i
 victimYes:∀{w:World} {s:τ} {F:Nat->Prop} {c:Cl} {a:Nat},CR w s F->pre s c->c.kind=3->P.victim s c.page=some a->
  Calls Try.prog 17 #[.pointer (some ⟨b,0,none⟩),.int .u32 c.page] w fun e w'=>e=.returned (.tuple #[.int .i64 a,.bool true])∧∃F',CR w' (P.gone s c.page) F'∧Fr F w w'∧∀i,F' i->F i∨w.heap.size<=i
 remove:∀{w:World} {s:τ} {F:Nat->Prop} {c:Cl},CR w s F->pre s c->c.kind=4->
  Calls Try.prog 104 #[.pointer (some ⟨b,0,none⟩),.int .i64 c.frame] w fun e w'=>e=.returned (.tuple #[])∧∃F',CR w' (P.remove s c.frame) F'∧Fr F w w'∧∀i,F' i->F i∨w.heap.size<=i
 size:∀{w:World} {s:τ} {F:Nat->Prop},CR w s F->
  Calls Try.prog 19 #[.pointer (some ⟨b,0,none⟩)] w fun e w'=>e=.returned (.int .i64 (P.size s:Nat))∧Fr NoF w w'
 ghosts:∀{w:World} {s:τ} {F:Nat->Prop},CR w s F->
  Calls Try.prog 18 #[.pointer (some ⟨b,0,none⟩)] w fun e w'=>∃gv,e=.returned gv∧SlK .u32 w' gv (P.ghosts s)∧Fr NoF w w'
def ReplayRel{τ:Type}(P:Pol τ)(CR:World->τ->(Nat->Prop)->Prop)(pre:τ->Cl->Prop)(w0:World)(F0:Nat->Prop)(s0:τ)(cs:List Cl)(i:Value)(wr:World):Prop:=
 ∃(k:Nat) (s:τ) (F:Nat->Prop),k<=cs.length∧i=.int .i64 k∧CR wr s F∧s=P.nexts s0 (cs.take k)∧Good P pre s (cs.drop k)∧Fr F0 w0 wr∧∀i,F i->F0 i∨w0.heap.size<=i
theorem ReplayRel_step{τ:Type}{P:Pol τ}{CR:World->τ->(Nat->Prop)->Prop}{pre:τ->Cl->Prop}{w0 wr wA w2 w5:World}{F0 Fk F2:Nat->Prop}{s0 t t':τ}{cs:List Cl}{c:Cl}{k:Nat}(hk:k<cs.length)
  (hN:P.next t c=P.nexts s0 (cs.take (k+1)))(hT:P.next t c=t')(hR:Good P pre (P.next t c) (cs.drop (k+1)))(hf:Fr F0 w0 wr)(hF:∀i,Fk i->F0 i∨w0.heap.size<=i)(hA:Fr NoF wr wA)(h2:Fr Fk wA w2)(hF2:∀i,F2 i->Fk i∨wA.heap.size<=i)
  (hC:CR w2 t' F2)(h5:Fr NoF w2 w5)(hfr:∀{w w':World} {s:τ} {F G:Nat->Prop},CR w s F->Fr G w w'->(∀i,F i->¬G i)->CR w' s F):ReplayRel P CR pre w0 F0 s0 cs (.int .i64 ((k:Int)+1)) w5:=by
 subst hT;refine⟨k+1,P.next t c,F2,hk,rfl,hfr hC h5 (fun _ _ q=>q),hN,hR,((hf.trans hA (fun _ q=>q.elim)).trans h2 hF).trans h5 (fun _ q=>q.elim),fun i hi=>?_⟩;rcases hF2 i hi with q|q
 .exact hF i q
 .right;have:=hf.size;have:=hA.size;omega
theorem Replay_walk{τ:Type}{P:Pol τ}{CR:World->τ->(Nat->Prop)->Prop}{b:Nat}{pre:τ->Cl->Prop}(C:CodSys P CR b pre){w:World}{s:τ}{F X:Nat->Prop}{v:Value}{cs:List Cl}
  (h:CR w s F)(hv:CRep w v cs X)(hX:∀i,X i->¬F i)(hXl:∀i,X i->i<w.heap.size)(hl:cs.length<1000000)(hG:Good P pre s cs):
  Calls Try.prog 11 #[.iface 25 (.pointer (some ⟨b,0,none⟩)),v] w fun e w'=>e=.returned (.bool true)∧∃F',CR w' (P.nexts s cs) F'∧Fr F w w'∧∀i,F' i->F i∨w.heap.size<=i:=by
 obtain⟨av,cv,rfl,q1,q2⟩:∃a c,v=.slice a cs.length c∧cs.length<=c∧c<=maxLen:=by obtain⟨gs,_,h2,_,_⟩:=hv;exact h2.shape
 unfold maxLen at q2;have HV:=Lib.hid hv;have HH:=Lib.hid h;have HX:=Lib.hid hX;have HXL:=Lib.hid hXl;have HG:=Lib.hid hG;have HC:=Lib.hid C;clear hv h hX hXl hG C;go_enter Try.func11,Try.ntmps11;go_wp2
 go_loopw [5] (ReplayRel P CR pre w F s cs) (fun i _=>cs.length-(intOf i).toNat)
 case atStart=>exact⟨0,s,F,Nat.zero_le _,rfl,HH.out,rfl,by simpa using HG.out,Fr.refl _ _,fun i hi=>.inl hi⟩
 case round=>
  obtain⟨k,t,Fk,hk,rfl,hcr,hn,hg,hf,hF⟩:=hrel;have HCR:=Lib.hid hcr;have HN:=Lib.hid hn;have HF:=Lib.hid hf;have HFk:=Lib.hid hF;clear hcr hn hf hF HG HH;by_cases hlt:k<cs.length
  .rw[List.drop_eq_getElem_cons hlt]at hg
   obtain⟨hkind,hpre,hwant,hsz,hszl,hgh,hghn,hghl,hrest⟩:=hg
   have HNX:Hid (P.next t cs[k]=P.nexts s (cs.take (k+1))):=by
    unfold Hid Pol.nexts;rw[List.take_succ_eq_append_getElem hlt,List.foldl_append,HN.out];rfl
   have hxF:∀i,X i->¬Fk i:=fun i hx hi=>(HFk.out i hi).elim (HX.out i hx) (fun q=>by have:=HXL.out i hx;omega)
   have hv1:CRep wr (.slice av cs.length cv) cs X:=HV.out.fr HF.out HX.out;obtain⟨bv,off,cv',gv,ev',_,_,hbv,hcell,hgv,hgX,hbX⟩:=hv1.at hlt;simp only[Value.slice.injEq]at ev';obtain⟨rfl,_,rfl⟩:=ev';have hXF:=HX.out;generalize cs[k]=c at*;obtain⟨kind,frame,page,on,want,size,ghosts⟩:=c;simp only at hkind hwant hsz hszl hgh hghn hghl hgv;have c0:wr.cell? ⟨bv,off+k*7,none⟩=some (.int .i64 kind):=hcell 0 _ rfl;have c1:wr.cell? ⟨bv,off+k*7+1,none⟩=some (.int .i64 frame):=hcell 1 _ rfl;have c2:wr.cell? ⟨bv,off+k*7+2,none⟩=some (.int .u32 page):=hcell 2 _ rfl;have c3:wr.cell? ⟨bv,off+k*7+3,none⟩=some (.bool on):=hcell 3 _ rfl;have c4:wr.cell? ⟨bv,off+k*7+4,none⟩=some (.int .i64 want):=hcell 4 _ rfl;have c5:wr.cell? ⟨bv,off+k*7+5,none⟩=some (.int .i64 size):=hcell 5 _ rfl;have c6:wr.cell? ⟨bv,off+k*7+6,none⟩=some gv:=hcell 6 _ rfl;obtain⟨ga,gc,rfl,_,_⟩:=hgv.shape;have HP:=Lib.hid hpre;have HW:=Lib.hid hwant;have HSZ:=Lib.hid hsz;have HGH:=Lib.hid (And.intro hgh (And.intro hghn (And.intro hghl hgv)));have HGX:=Lib.hid hgX;have HR:=Lib.hid hrest;have HXF:=Lib.hid hxF;clear hcell hpre hwant hsz hgh hghn hghl hgv hgX hrest hxF hXF hbX hv1;have fA:Fr NoF wr (wr.alloc (.cells #[.int .i64 kind,.int .i64 frame,.int .u32 page,.bool on,.int .i64 want,.int .i64 size,.slice ga ghosts.length gc] 38)):=(Fr.refl _ _).alloc _;have HA:Hid (CR (wr.alloc (.cells #[.int .i64 kind,.int .i64 frame,.int .u32 page,.bool on,.int .i64 want,.int .i64 size,.slice ga ghosts.length gc] 38)) t Fk):=HC.out.fr HCR.out fA (fun _ _ q=>q);have HFA:=Lib.hid fA;clear fA;obtain rfl|rfl|rfl|rfl|rfl:kind=0∨kind=1∨kind=2∨kind=3∨kind=4:=by omega
   .replace c0:wr.cell? ⟨bv,off+k*7,none⟩=some (.int .i64 0):=c0
    have HN':Hid (P.next t ⟨0,frame,page,on,want,size,ghosts⟩=P.miss t page):=by simp[Hid,Pol.next]
    have HCL:=Lib.hid (HC.out.miss (c:=⟨0,frame,page,on,want,size,ghosts⟩) HA.out HP.out rfl)
    go_wp2_with fail
    refine HCL.out.mono ?_;clear HCL;rintro e w2⟨rfl,F2,hcr2,hf2,hF2⟩;have hblk:wr.heap.size<(wr.alloc (.cells #[.int .i64 0,.int .i64 frame,.int .u32 page,.bool on,.int .i64 want,.int .i64 size,.slice ga ghosts.length gc] 38)).heap.size:=by simp
    have hnb:¬Fk wr.heap.size:=fun q=>by have:=HC.out.lt HCR.out _ q;omega
    have d5:w2.cell? ⟨wr.heap.size,5,none⟩=some (.int .i64 size):=by rw[hf2.cell (p:=⟨wr.heap.size,5,none⟩) hblk hnb];simp
    have d6:w2.cell? ⟨wr.heap.size,6,none⟩=some (.slice ga ghosts.length gc):=by rw[hf2.cell (p:=⟨wr.heap.size,6,none⟩) hblk hnb];simp
    have hsz2:wr.heap.size<w2.heap.size:=Nat.lt_of_lt_of_le hblk hf2.size
    have KS:Hid (∀w',Fr NoF w2 w'->Calls Try.prog 19 #[.pointer (some ⟨b,0,none⟩)] w' fun e w''=>e=.returned (.int .i64 (size:Nat))∧Fr NoF w2 w''):=by
     intro w' f;have:=HC.out.size (HC.out.fr hcr2 f (fun _ _ q=>q));rw[<-HSZ.out,HN'.out];exact this.mono fun e w'' ⟨he,hf⟩=>⟨he,f.trans hf (fun _ q=>q.elim)⟩
    have KG:Hid (∀w',Fr NoF w2 w'->Calls Try.prog 18 #[.pointer (some ⟨b,0,none⟩)] w' fun e w''=>∃gv,e=.returned gv∧(SlK .u32 w'' gv (P.ghosts (P.miss t page))∧Fr NoF w2 w'')):=by
     intro w' f;exact(HC.out.ghosts (HC.out.fr hcr2 f (fun _ _ q=>q))).mono fun e w'' ⟨gv,he,hs,hf⟩=>⟨gv,he,hs,f.trans hf (fun _ q=>q.elim)⟩
    have KP:Hid (∀w' gv',(SlK .u32 w' gv' (P.ghosts (P.miss t page))∧Fr NoF w2 w')->Calls Try.prog 26 #[gv',.slice ga ghosts.length gc] w' fun e w''=>e=.returned (.bool true)∧Fr NoF w2 w''):=by
     intro w' gv' ⟨hs,f⟩;obtain⟨g1,g2,g3,g4⟩:=HGH.out;have f0:Fr Fk wr w':=((HFA.out.none).trans hf2 (fun _ q=>.inl q)).trans f (fun _ q=>q.elim);rw[<-HN'.out]at hs;exact(SamePages_calls hs (g4.fr f0 (fun b hb=>HXF.out b (HGX.out b hb))) (by rw[g1.length_eq];exact g3) g1 g2).mono fun e w'' ⟨he,hf⟩=>⟨he,f.trans hf (fun _ q=>q.elim)⟩
    have HC2:=Lib.hid hcr2;have HF2:=Lib.hid hf2;have HFF2:=Lib.hid hF2;clear hcr2 hf2 hF2 hblk hnb
    go_wp2_with fail
    go_region_held3(fun w'=>w'.cell? ⟨wr.heap.size,5,none⟩=some (.int .i64 size)∧w'.cell? ⟨wr.heap.size,6,none⟩=some (.slice ga ghosts.length gc))
     (first|exact⟨d5,d6⟩|exact⟨e5,e6⟩|exact⟨g5,g6⟩|exact⟨p5,p6⟩)
     (first
      |(go_at_call 19;refine(KS.out _ ((Fr.refl NoF w2).drew)).mono ?_;rintro e w3⟨rfl,hf3⟩;have e5:=(hf3.cell (p:=⟨wr.heap.size,5,none⟩) hsz2 id).trans d5;have e6:=(hf3.cell (p:=⟨wr.heap.size,6,none⟩) hsz2 id).trans d6;have HF3:=Lib.hid hf3;clear hf3)
      |(go_at_call 18;refine(KG.out _ HF3.out).mono ?_;rintro e w4⟨gv4,rfl,hf4⟩;have g5:=(hf4.2.cell (p:=⟨wr.heap.size,5,none⟩) hsz2 id).trans d5;have g6:=(hf4.2.cell (p:=⟨wr.heap.size,6,none⟩) hsz2 id).trans d6;have HF4:=Lib.hid hf4;clear hf4)
      |(go_at_call 26;refine(KP.out _ _ HF4.out).mono ?_;rintro e w5⟨rfl,hf5⟩;have p5:=(hf5.cell (p:=⟨wr.heap.size,5,none⟩) hsz2 id).trans d5;have p6:=(hf5.cell (p:=⟨wr.heap.size,6,none⟩) hsz2 id).trans d6;have HF5:=Lib.hid hf5;clear hf5))
    go_wp2
    go_roundw
    case rel=>exact ReplayRel_step hlt HNX.out HN'.out HR.out HF.out HFk.out HFA.out HF2.out HFF2.out HC2.out HF5.out HC.out.fr
    case measure=>first|(simp[intOf];done)|(simp[intOf];omega)
   .replace c0:wr.cell? ⟨bv,off+k*7,none⟩=some (.int .i64 1):=c0
    have HN':Hid (P.next t ⟨1,frame,page,on,want,size,ghosts⟩=P.access t frame page):=by simp[Hid,Pol.next]
    have HCL:=Lib.hid (HC.out.access (c:=⟨1,frame,page,on,want,size,ghosts⟩) HA.out HP.out rfl)
    go_wp2_with fail
    refine HCL.out.mono ?_;clear HCL;rintro e w2⟨rfl,F2,hcr2,hf2,hF2⟩;have hblk:wr.heap.size<(wr.alloc (.cells #[.int .i64 1,.int .i64 frame,.int .u32 page,.bool on,.int .i64 want,.int .i64 size,.slice ga ghosts.length gc] 38)).heap.size:=by simp
    have hnb:¬Fk wr.heap.size:=fun q=>by have:=HC.out.lt HCR.out _ q;omega
    have d5:w2.cell? ⟨wr.heap.size,5,none⟩=some (.int .i64 size):=by rw[hf2.cell (p:=⟨wr.heap.size,5,none⟩) hblk hnb];simp
    have d6:w2.cell? ⟨wr.heap.size,6,none⟩=some (.slice ga ghosts.length gc):=by rw[hf2.cell (p:=⟨wr.heap.size,6,none⟩) hblk hnb];simp
    have hsz2:wr.heap.size<w2.heap.size:=Nat.lt_of_lt_of_le hblk hf2.size
    have KS:Hid (∀w',Fr NoF w2 w'->Calls Try.prog 19 #[.pointer (some ⟨b,0,none⟩)] w' fun e w''=>e=.returned (.int .i64 (size:Nat))∧Fr NoF w2 w''):=by
     intro w' f;have:=HC.out.size (HC.out.fr hcr2 f (fun _ _ q=>q));rw[<-HSZ.out,HN'.out];exact this.mono fun e w'' ⟨he,hf⟩=>⟨he,f.trans hf (fun _ q=>q.elim)⟩
    have KG:Hid (∀w',Fr NoF w2 w'->Calls Try.prog 18 #[.pointer (some ⟨b,0,none⟩)] w' fun e w''=>∃gv,e=.returned gv∧(SlK .u32 w'' gv (P.ghosts (P.access t frame page))∧Fr NoF w2 w'')):=by
     intro w' f;exact(HC.out.ghosts (HC.out.fr hcr2 f (fun _ _ q=>q))).mono fun e w'' ⟨gv,he,hs,hf⟩=>⟨gv,he,hs,f.trans hf (fun _ q=>q.elim)⟩
    have KP:Hid (∀w' gv',(SlK .u32 w' gv' (P.ghosts (P.access t frame page))∧Fr NoF w2 w')->Calls Try.prog 26 #[gv',.slice ga ghosts.length gc] w' fun e w''=>e=.returned (.bool true)∧Fr NoF w2 w''):=by
     intro w' gv' ⟨hs,f⟩;obtain⟨g1,g2,g3,g4⟩:=HGH.out;have f0:Fr Fk wr w':=((HFA.out.none).trans hf2 (fun _ q=>.inl q)).trans f (fun _ q=>q.elim);rw[<-HN'.out]at hs;exact(SamePages_calls hs (g4.fr f0 (fun b hb=>HXF.out b (HGX.out b hb))) (by rw[g1.length_eq];exact g3) g1 g2).mono fun e w'' ⟨he,hf⟩=>⟨he,f.trans hf (fun _ q=>q.elim)⟩
    have HC2:=Lib.hid hcr2;have HF2:=Lib.hid hf2;have HFF2:=Lib.hid hF2;clear hcr2 hf2 hF2 hblk hnb
    go_wp2_with fail
    go_region_held3(fun w'=>w'.cell? ⟨wr.heap.size,5,none⟩=some (.int .i64 size)∧w'.cell? ⟨wr.heap.size,6,none⟩=some (.slice ga ghosts.length gc))
     (first|exact⟨d5,d6⟩|exact⟨e5,e6⟩|exact⟨g5,g6⟩|exact⟨p5,p6⟩)
     (first
      |(go_at_call 19;refine(KS.out _ ((Fr.refl NoF w2).drew)).mono ?_;rintro e w3⟨rfl,hf3⟩;have e5:=(hf3.cell (p:=⟨wr.heap.size,5,none⟩) hsz2 id).trans d5;have e6:=(hf3.cell (p:=⟨wr.heap.size,6,none⟩) hsz2 id).trans d6;have HF3:=Lib.hid hf3;clear hf3)
      |(go_at_call 18;refine(KG.out _ HF3.out).mono ?_;rintro e w4⟨gv4,rfl,hf4⟩;have g5:=(hf4.2.cell (p:=⟨wr.heap.size,5,none⟩) hsz2 id).trans d5;have g6:=(hf4.2.cell (p:=⟨wr.heap.size,6,none⟩) hsz2 id).trans d6;have HF4:=Lib.hid hf4;clear hf4)
      |(go_at_call 26;refine(KP.out _ _ HF4.out).mono ?_;rintro e w5⟨rfl,hf5⟩;have p5:=(hf5.cell (p:=⟨wr.heap.size,5,none⟩) hsz2 id).trans d5;have p6:=(hf5.cell (p:=⟨wr.heap.size,6,none⟩) hsz2 id).trans d6;have HF5:=Lib.hid hf5;clear hf5))
    go_wp2
    go_roundw
    case rel=>exact ReplayRel_step hlt HNX.out HN'.out HR.out HF.out HFk.out HFA.out HF2.out HFF2.out HC2.out HF5.out HC.out.fr
    case measure=>first|(simp[intOf];done)|(simp[intOf];omega)
   .replace c0:wr.cell? ⟨bv,off+k*7,none⟩=some (.int .i64 2):=c0
    have HN':Hid (P.next t ⟨2,frame,page,on,want,size,ghosts⟩=P.set t frame on):=by simp[Hid,Pol.next]
    have HCL:=Lib.hid (HC.out.set (c:=⟨2,frame,page,on,want,size,ghosts⟩) HA.out HP.out rfl)
    go_wp2_with fail
    refine HCL.out.mono ?_;clear HCL;rintro e w2⟨rfl,F2,hcr2,hf2,hF2⟩;have hblk:wr.heap.size<(wr.alloc (.cells #[.int .i64 2,.int .i64 frame,.int .u32 page,.bool on,.int .i64 want,.int .i64 size,.slice ga ghosts.length gc] 38)).heap.size:=by simp
    have hnb:¬Fk wr.heap.size:=fun q=>by have:=HC.out.lt HCR.out _ q;omega
    have d5:w2.cell? ⟨wr.heap.size,5,none⟩=some (.int .i64 size):=by rw[hf2.cell (p:=⟨wr.heap.size,5,none⟩) hblk hnb];simp
    have d6:w2.cell? ⟨wr.heap.size,6,none⟩=some (.slice ga ghosts.length gc):=by rw[hf2.cell (p:=⟨wr.heap.size,6,none⟩) hblk hnb];simp
    have hsz2:wr.heap.size<w2.heap.size:=Nat.lt_of_lt_of_le hblk hf2.size
    have KS:Hid (∀w',Fr NoF w2 w'->Calls Try.prog 19 #[.pointer (some ⟨b,0,none⟩)] w' fun e w''=>e=.returned (.int .i64 (size:Nat))∧Fr NoF w2 w''):=by
     intro w' f;have:=HC.out.size (HC.out.fr hcr2 f (fun _ _ q=>q));rw[<-HSZ.out,HN'.out];exact this.mono fun e w'' ⟨he,hf⟩=>⟨he,f.trans hf (fun _ q=>q.elim)⟩
    have KG:Hid (∀w',Fr NoF w2 w'->Calls Try.prog 18 #[.pointer (some ⟨b,0,none⟩)] w' fun e w''=>∃gv,e=.returned gv∧(SlK .u32 w'' gv (P.ghosts (P.set t frame on))∧Fr NoF w2 w'')):=by
     intro w' f;exact(HC.out.ghosts (HC.out.fr hcr2 f (fun _ _ q=>q))).mono fun e w'' ⟨gv,he,hs,hf⟩=>⟨gv,he,hs,f.trans hf (fun _ q=>q.elim)⟩
    have KP:Hid (∀w' gv',(SlK .u32 w' gv' (P.ghosts (P.set t frame on))∧Fr NoF w2 w')->Calls Try.prog 26 #[gv',.slice ga ghosts.length gc] w' fun e w''=>e=.returned (.bool true)∧Fr NoF w2 w''):=by
     intro w' gv' ⟨hs,f⟩;obtain⟨g1,g2,g3,g4⟩:=HGH.out;have f0:Fr Fk wr w':=((HFA.out.none).trans hf2 (fun _ q=>.inl q)).trans f (fun _ q=>q.elim);rw[<-HN'.out]at hs;exact(SamePages_calls hs (g4.fr f0 (fun b hb=>HXF.out b (HGX.out b hb))) (by rw[g1.length_eq];exact g3) g1 g2).mono fun e w'' ⟨he,hf⟩=>⟨he,f.trans hf (fun _ q=>q.elim)⟩
    have HC2:=Lib.hid hcr2;have HF2:=Lib.hid hf2;have HFF2:=Lib.hid hF2;clear hcr2 hf2 hF2 hblk hnb
    go_wp2_with fail
    go_region_held3(fun w'=>w'.cell? ⟨wr.heap.size,5,none⟩=some (.int .i64 size)∧w'.cell? ⟨wr.heap.size,6,none⟩=some (.slice ga ghosts.length gc))
     (first|exact⟨d5,d6⟩|exact⟨e5,e6⟩|exact⟨g5,g6⟩|exact⟨p5,p6⟩)
     (first
      |(go_at_call 19;refine(KS.out _ ((Fr.refl NoF w2).drew)).mono ?_;rintro e w3⟨rfl,hf3⟩;have e5:=(hf3.cell (p:=⟨wr.heap.size,5,none⟩) hsz2 id).trans d5;have e6:=(hf3.cell (p:=⟨wr.heap.size,6,none⟩) hsz2 id).trans d6;have HF3:=Lib.hid hf3;clear hf3)
      |(go_at_call 18;refine(KG.out _ HF3.out).mono ?_;rintro e w4⟨gv4,rfl,hf4⟩;have g5:=(hf4.2.cell (p:=⟨wr.heap.size,5,none⟩) hsz2 id).trans d5;have g6:=(hf4.2.cell (p:=⟨wr.heap.size,6,none⟩) hsz2 id).trans d6;have HF4:=Lib.hid hf4;clear hf4)
      |(go_at_call 26;refine(KP.out _ _ HF4.out).mono ?_;rintro e w5⟨rfl,hf5⟩;have p5:=(hf5.cell (p:=⟨wr.heap.size,5,none⟩) hsz2 id).trans d5;have p6:=(hf5.cell (p:=⟨wr.heap.size,6,none⟩) hsz2 id).trans d6;have HF5:=Lib.hid hf5;clear hf5))
    go_wp2
    go_roundw
    case rel=>exact ReplayRel_step hlt HNX.out HN'.out HR.out HF.out HFk.out HFA.out HF2.out HFF2.out HC2.out HF5.out HC.out.fr
    case measure=>first|(simp[intOf];done)|(simp[intOf];omega)
   .replace c0:wr.cell? ⟨bv,off+k*7,none⟩=some (.int .i64 3):=c0
    cases ev:P.victim t page with
    |none=>
     have HEV:=Lib.hid ev;obtain rfl:want= -1:=by have:=HW.out rfl;rw[ev]at this;exact this
     clear ev;have HN':Hid (P.next t ⟨3,frame,page,on,(-1),size,ghosts⟩=t):=by simp[Hid,Pol.next,HEV.out]
     have HCL:=Lib.hid (HC.out.victimNo (c:=⟨3,frame,page,on,(-1),size,ghosts⟩) HA.out HP.out rfl HEV.out)
     go_wp2_with fail
     refine HCL.out.mono ?_;clear HCL;rintro e w2⟨rfl,F2,hcr2,hf2,hF2⟩;have hblk:wr.heap.size<(wr.alloc (.cells #[.int .i64 3,.int .i64 frame,.int .u32 page,.bool on,.int .i64 (-1),.int .i64 size,.slice ga ghosts.length gc] 38)).heap.size:=by simp
     have hnb:¬Fk wr.heap.size:=fun q=>by have:=HC.out.lt HCR.out _ q;omega
     have d4:w2.cell? ⟨wr.heap.size,4,none⟩=some (.int .i64 (-1)):=by rw[hf2.cell (p:=⟨wr.heap.size,4,none⟩) hblk hnb];simp
     have d5:w2.cell? ⟨wr.heap.size,5,none⟩=some (.int .i64 size):=by rw[hf2.cell (p:=⟨wr.heap.size,5,none⟩) hblk hnb];simp
     have d6:w2.cell? ⟨wr.heap.size,6,none⟩=some (.slice ga ghosts.length gc):=by rw[hf2.cell (p:=⟨wr.heap.size,6,none⟩) hblk hnb];simp
     have hsz2:wr.heap.size<w2.heap.size:=Nat.lt_of_lt_of_le hblk hf2.size
     have KS:Hid (∀w',Fr NoF w2 w'->Calls Try.prog 19 #[.pointer (some ⟨b,0,none⟩)] w' fun e w''=>e=.returned (.int .i64 (size:Nat))∧Fr NoF w2 w''):=by
      intro w' f;have:=HC.out.size (HC.out.fr hcr2 f (fun _ _ q=>q));rw[<-HSZ.out,HN'.out];exact this.mono fun e w'' ⟨he,hf⟩=>⟨he,f.trans hf (fun _ q=>q.elim)⟩
     have KG:Hid (∀w',Fr NoF w2 w'->Calls Try.prog 18 #[.pointer (some ⟨b,0,none⟩)] w' fun e w''=>∃gv,e=.returned gv∧(SlK .u32 w'' gv (P.ghosts (t))∧Fr NoF w2 w'')):=by
      intro w' f;exact(HC.out.ghosts (HC.out.fr hcr2 f (fun _ _ q=>q))).mono fun e w'' ⟨gv,he,hs,hf⟩=>⟨gv,he,hs,f.trans hf (fun _ q=>q.elim)⟩
     have KP:Hid (∀w' gv',(SlK .u32 w' gv' (P.ghosts (t))∧Fr NoF w2 w')->Calls Try.prog 26 #[gv',.slice ga ghosts.length gc] w' fun e w''=>e=.returned (.bool true)∧Fr NoF w2 w''):=by
      intro w' gv' ⟨hs,f⟩;obtain⟨g1,g2,g3,g4⟩:=HGH.out;have f0:Fr Fk wr w':=((HFA.out.none).trans hf2 (fun _ q=>.inl q)).trans f (fun _ q=>q.elim);rw[<-HN'.out]at hs;exact(SamePages_calls hs (g4.fr f0 (fun b hb=>HXF.out b (HGX.out b hb))) (by rw[g1.length_eq];exact g3) g1 g2).mono fun e w'' ⟨he,hf⟩=>⟨he,f.trans hf (fun _ q=>q.elim)⟩
     have HC2:=Lib.hid hcr2;have HF2:=Lib.hid hf2;have HFF2:=Lib.hid hF2;clear hcr2 hf2 hF2 hblk hnb
     go_wp2_with fail
     go_region_held3(fun w'=>w'.cell? ⟨wr.heap.size,5,none⟩=some (.int .i64 size)∧w'.cell? ⟨wr.heap.size,6,none⟩=some (.slice ga ghosts.length gc))
      (first|exact⟨d5,d6⟩|exact⟨e5,e6⟩|exact⟨g5,g6⟩|exact⟨p5,p6⟩)
      (first
       |(go_at_call 19;refine(KS.out _ ((Fr.refl NoF w2).drew)).mono ?_;rintro e w3⟨rfl,hf3⟩;have e5:=(hf3.cell (p:=⟨wr.heap.size,5,none⟩) hsz2 id).trans d5;have e6:=(hf3.cell (p:=⟨wr.heap.size,6,none⟩) hsz2 id).trans d6;have HF3:=Lib.hid hf3;clear hf3)
       |(go_at_call 18;refine(KG.out _ HF3.out).mono ?_;rintro e w4⟨gv4,rfl,hf4⟩;have g5:=(hf4.2.cell (p:=⟨wr.heap.size,5,none⟩) hsz2 id).trans d5;have g6:=(hf4.2.cell (p:=⟨wr.heap.size,6,none⟩) hsz2 id).trans d6;have HF4:=Lib.hid hf4;clear hf4)
       |(go_at_call 26;refine(KP.out _ _ HF4.out).mono ?_;rintro e w5⟨rfl,hf5⟩;have p5:=(hf5.cell (p:=⟨wr.heap.size,5,none⟩) hsz2 id).trans d5;have p6:=(hf5.cell (p:=⟨wr.heap.size,6,none⟩) hsz2 id).trans d6;have HF5:=Lib.hid hf5;clear hf5))
     go_wp2
     go_roundw
     case rel=>exact ReplayRel_step hlt HNX.out HN'.out HR.out HF.out HFk.out HFA.out HF2.out HFF2.out HC2.out HF5.out HC.out.fr
     case measure=>first|(simp[intOf];done)|(simp[intOf];omega)
    |some a=>
     have HEV:=Lib.hid ev;obtain rfl:want=(a:Int):=by have:=HW.out rfl;rw[ev]at this;exact this
     clear ev;have HN':Hid (P.next t ⟨3,frame,page,on,(a:Int),size,ghosts⟩=P.gone t page):=by simp[Hid,Pol.next,HEV.out]
     have HCL:=Lib.hid (HC.out.victimYes (c:=⟨3,frame,page,on,(a:Int),size,ghosts⟩) HA.out HP.out rfl HEV.out)
     go_wp2_with fail
     refine HCL.out.mono ?_;clear HCL;rintro e w2⟨rfl,F2,hcr2,hf2,hF2⟩;have hblk:wr.heap.size<(wr.alloc (.cells #[.int .i64 3,.int .i64 frame,.int .u32 page,.bool on,.int .i64 (a:Int),.int .i64 size,.slice ga ghosts.length gc] 38)).heap.size:=by simp
     have hnb:¬Fk wr.heap.size:=fun q=>by have:=HC.out.lt HCR.out _ q;omega
     have d4:w2.cell? ⟨wr.heap.size,4,none⟩=some (.int .i64 (a:Int)):=by rw[hf2.cell (p:=⟨wr.heap.size,4,none⟩) hblk hnb];simp
     have d5:w2.cell? ⟨wr.heap.size,5,none⟩=some (.int .i64 size):=by rw[hf2.cell (p:=⟨wr.heap.size,5,none⟩) hblk hnb];simp
     have d6:w2.cell? ⟨wr.heap.size,6,none⟩=some (.slice ga ghosts.length gc):=by rw[hf2.cell (p:=⟨wr.heap.size,6,none⟩) hblk hnb];simp
     have hsz2:wr.heap.size<w2.heap.size:=Nat.lt_of_lt_of_le hblk hf2.size
     have KS:Hid (∀w',Fr NoF w2 w'->Calls Try.prog 19 #[.pointer (some ⟨b,0,none⟩)] w' fun e w''=>e=.returned (.int .i64 (size:Nat))∧Fr NoF w2 w''):=by
      intro w' f;have:=HC.out.size (HC.out.fr hcr2 f (fun _ _ q=>q));rw[<-HSZ.out,HN'.out];exact this.mono fun e w'' ⟨he,hf⟩=>⟨he,f.trans hf (fun _ q=>q.elim)⟩
     have KG:Hid (∀w',Fr NoF w2 w'->Calls Try.prog 18 #[.pointer (some ⟨b,0,none⟩)] w' fun e w''=>∃gv,e=.returned gv∧(SlK .u32 w'' gv (P.ghosts (P.gone t page))∧Fr NoF w2 w'')):=by
      intro w' f;exact(HC.out.ghosts (HC.out.fr hcr2 f (fun _ _ q=>q))).mono fun e w'' ⟨gv,he,hs,hf⟩=>⟨gv,he,hs,f.trans hf (fun _ q=>q.elim)⟩
     have KP:Hid (∀w' gv',(SlK .u32 w' gv' (P.ghosts (P.gone t page))∧Fr NoF w2 w')->Calls Try.prog 26 #[gv',.slice ga ghosts.length gc] w' fun e w''=>e=.returned (.bool true)∧Fr NoF w2 w''):=by
      intro w' gv' ⟨hs,f⟩;obtain⟨g1,g2,g3,g4⟩:=HGH.out;have f0:Fr Fk wr w':=((HFA.out.none).trans hf2 (fun _ q=>.inl q)).trans f (fun _ q=>q.elim);rw[<-HN'.out]at hs;exact(SamePages_calls hs (g4.fr f0 (fun b hb=>HXF.out b (HGX.out b hb))) (by rw[g1.length_eq];exact g3) g1 g2).mono fun e w'' ⟨he,hf⟩=>⟨he,f.trans hf (fun _ q=>q.elim)⟩
     have HC2:=Lib.hid hcr2;have HF2:=Lib.hid hf2;have HFF2:=Lib.hid hF2;clear hcr2 hf2 hF2 hblk hnb
     go_wp2_with fail
     go_region_held3(fun w'=>w'.cell? ⟨wr.heap.size,5,none⟩=some (.int .i64 size)∧w'.cell? ⟨wr.heap.size,6,none⟩=some (.slice ga ghosts.length gc))
      (first|exact⟨d5,d6⟩|exact⟨e5,e6⟩|exact⟨g5,g6⟩|exact⟨p5,p6⟩)
      (first
       |(go_at_call 19;refine(KS.out _ ((Fr.refl NoF w2).drew)).mono ?_;rintro e w3⟨rfl,hf3⟩;have e5:=(hf3.cell (p:=⟨wr.heap.size,5,none⟩) hsz2 id).trans d5;have e6:=(hf3.cell (p:=⟨wr.heap.size,6,none⟩) hsz2 id).trans d6;have HF3:=Lib.hid hf3;clear hf3)
       |(go_at_call 18;refine(KG.out _ HF3.out).mono ?_;rintro e w4⟨gv4,rfl,hf4⟩;have g5:=(hf4.2.cell (p:=⟨wr.heap.size,5,none⟩) hsz2 id).trans d5;have g6:=(hf4.2.cell (p:=⟨wr.heap.size,6,none⟩) hsz2 id).trans d6;have HF4:=Lib.hid hf4;clear hf4)
       |(go_at_call 26;refine(KP.out _ _ HF4.out).mono ?_;rintro e w5⟨rfl,hf5⟩;have p5:=(hf5.cell (p:=⟨wr.heap.size,5,none⟩) hsz2 id).trans d5;have p6:=(hf5.cell (p:=⟨wr.heap.size,6,none⟩) hsz2 id).trans d6;have HF5:=Lib.hid hf5;clear hf5))
     go_wp2
     go_roundw
     case rel=>exact ReplayRel_step hlt HNX.out HN'.out HR.out HF.out HFk.out HFA.out HF2.out HFF2.out HC2.out HF5.out HC.out.fr
     case measure=>first|(simp[intOf];done)|(simp[intOf];omega)
   .replace c0:wr.cell? ⟨bv,off+k*7,none⟩=some (.int .i64 4):=c0
    have HN':Hid (P.next t ⟨4,frame,page,on,want,size,ghosts⟩=P.remove t frame):=by simp[Hid,Pol.next]
    have HCL:=Lib.hid (HC.out.remove (c:=⟨4,frame,page,on,want,size,ghosts⟩) HA.out HP.out rfl)
    go_wp2_with fail
    refine HCL.out.mono ?_;clear HCL;rintro e w2⟨rfl,F2,hcr2,hf2,hF2⟩;have hblk:wr.heap.size<(wr.alloc (.cells #[.int .i64 4,.int .i64 frame,.int .u32 page,.bool on,.int .i64 want,.int .i64 size,.slice ga ghosts.length gc] 38)).heap.size:=by simp
    have hnb:¬Fk wr.heap.size:=fun q=>by have:=HC.out.lt HCR.out _ q;omega
    have d5:w2.cell? ⟨wr.heap.size,5,none⟩=some (.int .i64 size):=by rw[hf2.cell (p:=⟨wr.heap.size,5,none⟩) hblk hnb];simp
    have d6:w2.cell? ⟨wr.heap.size,6,none⟩=some (.slice ga ghosts.length gc):=by rw[hf2.cell (p:=⟨wr.heap.size,6,none⟩) hblk hnb];simp
    have hsz2:wr.heap.size<w2.heap.size:=Nat.lt_of_lt_of_le hblk hf2.size
    have KS:Hid (∀w',Fr NoF w2 w'->Calls Try.prog 19 #[.pointer (some ⟨b,0,none⟩)] w' fun e w''=>e=.returned (.int .i64 (size:Nat))∧Fr NoF w2 w''):=by
     intro w' f;have:=HC.out.size (HC.out.fr hcr2 f (fun _ _ q=>q));rw[<-HSZ.out,HN'.out];exact this.mono fun e w'' ⟨he,hf⟩=>⟨he,f.trans hf (fun _ q=>q.elim)⟩
    have KG:Hid (∀w',Fr NoF w2 w'->Calls Try.prog 18 #[.pointer (some ⟨b,0,none⟩)] w' fun e w''=>∃gv,e=.returned gv∧(SlK .u32 w'' gv (P.ghosts (P.remove t frame))∧Fr NoF w2 w'')):=by
     intro w' f;exact(HC.out.ghosts (HC.out.fr hcr2 f (fun _ _ q=>q))).mono fun e w'' ⟨gv,he,hs,hf⟩=>⟨gv,he,hs,f.trans hf (fun _ q=>q.elim)⟩
    have KP:Hid (∀w' gv',(SlK .u32 w' gv' (P.ghosts (P.remove t frame))∧Fr NoF w2 w')->Calls Try.prog 26 #[gv',.slice ga ghosts.length gc] w' fun e w''=>e=.returned (.bool true)∧Fr NoF w2 w''):=by
     intro w' gv' ⟨hs,f⟩;obtain⟨g1,g2,g3,g4⟩:=HGH.out;have f0:Fr Fk wr w':=((HFA.out.none).trans hf2 (fun _ q=>.inl q)).trans f (fun _ q=>q.elim);rw[<-HN'.out]at hs;exact(SamePages_calls hs (g4.fr f0 (fun b hb=>HXF.out b (HGX.out b hb))) (by rw[g1.length_eq];exact g3) g1 g2).mono fun e w'' ⟨he,hf⟩=>⟨he,f.trans hf (fun _ q=>q.elim)⟩
    have HC2:=Lib.hid hcr2;have HF2:=Lib.hid hf2;have HFF2:=Lib.hid hF2;clear hcr2 hf2 hF2 hblk hnb
    go_wp2_with fail
    go_region_held3(fun w'=>w'.cell? ⟨wr.heap.size,5,none⟩=some (.int .i64 size)∧w'.cell? ⟨wr.heap.size,6,none⟩=some (.slice ga ghosts.length gc))
     (first|exact⟨d5,d6⟩|exact⟨e5,e6⟩|exact⟨g5,g6⟩|exact⟨p5,p6⟩)
     (first
      |(go_at_call 19;refine(KS.out _ ((Fr.refl NoF w2).drew)).mono ?_;rintro e w3⟨rfl,hf3⟩;have e5:=(hf3.cell (p:=⟨wr.heap.size,5,none⟩) hsz2 id).trans d5;have e6:=(hf3.cell (p:=⟨wr.heap.size,6,none⟩) hsz2 id).trans d6;have HF3:=Lib.hid hf3;clear hf3)
      |(go_at_call 18;refine(KG.out _ HF3.out).mono ?_;rintro e w4⟨gv4,rfl,hf4⟩;have g5:=(hf4.2.cell (p:=⟨wr.heap.size,5,none⟩) hsz2 id).trans d5;have g6:=(hf4.2.cell (p:=⟨wr.heap.size,6,none⟩) hsz2 id).trans d6;have HF4:=Lib.hid hf4;clear hf4)
      |(go_at_call 26;refine(KP.out _ _ HF4.out).mono ?_;rintro e w5⟨rfl,hf5⟩;have p5:=(hf5.cell (p:=⟨wr.heap.size,5,none⟩) hsz2 id).trans d5;have p6:=(hf5.cell (p:=⟨wr.heap.size,6,none⟩) hsz2 id).trans d6;have HF5:=Lib.hid hf5;clear hf5))
    go_wp2
    go_roundw
    case rel=>exact ReplayRel_step hlt HNX.out HN'.out HR.out HF.out HFk.out HFA.out HF2.out HFF2.out HC2.out HF5.out HC.out.fr
    case measure=>first|(simp[intOf];done)|(simp[intOf];omega)
  .obtain rfl:k=cs.length:=by omega
   have hn:t=P.nexts s cs:=by have:=HN.out;rw[List.take_length]at this;exact this
   have HT:=Lib.hid hn;clear hg hn;go_wp2;go_returns;exact⟨rfl,Fk,HT.out▸HCR.out,HF.out,HFk.out⟩
theorem Nones_walk{w:World}{v:Value}{cs:List Cl}{X:Nat->Prop}(hv:CRep w v cs X)(hl:cs.length<1000000)
  (hno:∀(i:Nat) (c d:Cl),cs[i+1]?=some c->cs[i]?=some d->c.kind=3->(c.want<0↔d.size=0)):
  Calls Try.prog 10 #[v] w fun e w'=>e=.returned (.bool true)∧Fr NoF w w':=by
 obtain⟨av,cv,rfl,q1,q2⟩:∃a c,v=.slice a cs.length c∧cs.length<=c∧c<=maxLen:=by obtain⟨gs,_,h2,_,_⟩:=hv;exact h2.shape
 unfold maxLen at q2;have HV:=Lib.hid hv;have HNO:=Lib.hid hno;clear hv hno;go_enter Try.func10,Try.ntmps10;go_wp2
 go_loopg [3] cs.length (fun g i wr=>∃k:Nat,g=cs.length-k∧i=.int .i64 ((k:Int)+1)∧k<=cs.length∧Fr NoF w wr)
 case atStart=>exact⟨0,rfl,rfl,Nat.zero_le _,Fr.refl _ _⟩
 case round=>
  obtain⟨k,rfl,rfl,hk,hf⟩:=hrel;by_cases hlt:k+1<cs.length
  .have h1:k<cs.length:=by omega
   have hv1:CRep wr (.slice av cs.length cv) cs X:=HV.out.fr hf (fun _ _ q=>q);obtain⟨b,off,c,gv,ev,_,_,hb,hcell,_⟩:=hv1.at hlt;simp only[Value.slice.injEq]at ev;obtain⟨rfl,_,rfl⟩:=ev;obtain⟨b',off',c',gv',ev',_,_,_,hcell',_⟩:=hv1.at h1;simp only[Value.slice.injEq,Option.some.injEq,Addr.mk.injEq]at ev';obtain⟨⟨e1,e2,_⟩,_,e0⟩:=ev';rw[<-e1,<-e2]at hcell';clear e1 e2 e0;have hno:=HNO.out k cs[k+1] cs[k] (List.getElem?_eq_getElem hlt) (List.getElem?_eq_getElem h1);have c0:=hcell 0 _ rfl;have c4:=hcell 4 _ rfl;have c5:=hcell' 5 _ rfl;simp only[Nat.add_zero]at c0;generalize cs[k+1]=x at*;generalize cs[k]=y at*;obtain⟨kind,frame,page,on,want,size,ghosts⟩:=x;obtain⟨kind',frame',page',on',want',size',ghosts'⟩:=y;simp only at hno c0 c4 c5;have HF:=Lib.hid hf;have e3:(k:Int)+1-1=k:=by omega
   have e4:((k:Int)+1).toNat=k+1:=by omega
   have e5:IntKind.i64.wrap ((k:Int)+1-1)=(k:Int):=by rw[e3];exact IntWalk.i64_in _ (by omega)
   have e6:0<=(k:Int)+1:=by omega
   have e7:((k:Int)+1).toNat<cs.length:=by omega
   clear hcell hcell' hv1 hf;by_cases h3:kind=3
   .subst h3
    have hno:=hno rfl
    replace c0:wr.cell? ⟨b,off+(k+1)*7,none⟩=some (.int .i64 3):=c0
    by_cases hw:want<0
    .have h0:=hno.1 hw
     subst h0
     replace c5:wr.cell? ⟨b,off+k*7+5,none⟩=some (.int .i64 0):=c5
     have b1:decide (want<0)=true:=by simp[hw]
     clear hno;go_wp2
     go_quiet (fail)
     go_wp2
     go_roundg (cs.length-(k+1))
     case measure=>omega
     case rel=>exact⟨k+1,rfl,by go_num,by omega,HF.out.trans ((Fr.refl NoF wr).drewN _) (fun _ q=>q.elim)⟩
    .have h0:¬size'=0:=fun e=>hw (hno.2 e)
     have b1:decide (want<0)=false:=by simp[hw]
     have b2:((size':Int)==0)=false:=by simp;omega
     clear hno;go_wp2
     go_quiet (fail)
     go_wp2
     go_roundg (cs.length-(k+1))
     case measure=>omega
     case rel=>exact⟨k+1,rfl,by go_num,by omega,HF.out.trans ((Fr.refl NoF wr).drewN _) (fun _ q=>q.elim)⟩
   .have b0:((kind:Int)==3)=false:=by simp;omega
    clear hno;go_wp2
    go_quiet (fail)
    go_wp2
    go_roundg (cs.length-(k+1))
    case measure=>omega
    case rel=>exact⟨k+1,rfl,by go_num,by omega,HF.out.trans ((Fr.refl NoF wr).drewN _) (fun _ q=>q.elim)⟩
  .go_wp2
   go_returns;exact⟨rfl,hf⟩
end
end Go.Proofs.Ytcccbdnojlmgaaa
