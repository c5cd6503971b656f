/- Part 41. -/
import Derived.Test.YtcccbdnojlmgaaaK40
namespace Go.Proofs.Ytcccbdnojlmgaaa
set_option linter.all false
set_option maxHeartbeats 16000000
set_option maxRecDepth 100000
section
open Go.RowKit
section
variable{w w' w0 w2:World}{pb gb ob n K near kept:Nat}{hc hc':Nat->Value}{s s':S5}{pv pv':List (Pa×Value)}{F0 D0:Nat->Prop}
theorem P5.setPast(h:P5 w0 F0 D0 pb gb ob n K near kept w hc s pv){g c i:Nat}{y:Pa×Value}(e:hc 6=.slice (some ⟨g,0,none⟩) pv.length c)(hx:i<pv.length)
  (hy:SlK .i64 w y.2 y.1.ts)(hb:∀b,y.2.ownBlock=some b->(∃z∈pv,z.2.ownBlock=some b)∨(w0.heap.size<=b∧¬FP pb gb ob b∧¬(hc 6).ownBlock=some b)):
  P5 w0 F0 D0 pb gb ob n K near kept (((w.setCell ⟨g,i*3,none⟩ (.int .u32 (y.1.p:Nat))).setCell ⟨g,i*3+1,none⟩ (.int .i64 (y.1.l:Nat))).setCell ⟨g,i*3+2,none⟩ y.2) hc ⟨s.page,s.on,(pv.set i y).map (·.1),s.old,s.T⟩ (pv.set i y):=by
 have hm:=h.m;have hg:(hc 6).ownBlock=some g:=by rw[e];rfl
 have f:Fr (fun b=>b=g) w (((w.setCell ⟨g,i*3,none⟩ (.int .u32 (y.1.p:Nat))).setCell ⟨g,i*3+1,none⟩ (.int .i64 (y.1.l:Nat))).setCell ⟨g,i*3+2,none⟩ y.2):=
  (((Fr.refl (fun b=>b=g) w).setCell (p:=⟨g,i*3,none⟩) (.inl rfl) _).setCell (p:=⟨g,i*3+1,none⟩) (.inl rfl) _).setCell (p:=⟨g,i*3+2,none⟩) (.inl rfl) _
 have nD:∀b,DP pb gb ob hc (rows5 s) b->¬b=g:=by
  rintro b(q|⟨j,k,l,e',q⟩)rfl
  .exact(hm.v6 b hg).1 q
  .have ej:j=7:=by
    apply Classical.byContradiction;intro hn;simp[rows5,hn]at e'
   subst ej;exact(hm.v6 b hg).2 q
 have hl1:(cells5 pv).length=pv.length*3:=cells5_len pv
 have hown:(((w.setCell ⟨g,i*3,none⟩ (.int .u32 (y.1.p:Nat))).setCell ⟨g,i*3+1,none⟩ (.int .i64 (y.1.l:Nat))).setCell ⟨g,i*3+2,none⟩ y.2).ownsRow 0 97 3 (hc 6) (pv.set i y).length (cells5 (pv.set i y)):=by
  have h0:=hm.own;rw[e]at h0⊢;rw[cells5_set pv i y hx,List.length_set];exact own_set (own_set (own_set h0 (by omega) _) (by rw[List.length_set];omega) _) (by rw[List.length_set,List.length_set];omega) _
 have hb2:∀b,y.2.ownBlock=some b->¬FP pb gb ob b∧¬(hc 6).ownBlock=some b:=fun b q=>by
  rcases hb b q with⟨z,hz,q2⟩|q2
  .exact(hm.ts z hz).2 b q2
  .exact q2.2
 refine⟨⟨hm.g.fr f nD,hm.c0,hm.c1,hm.c2,hm.c3,hm.c4,hm.c5,hm.c8,rfl,hown,fun x hx=>?_,hm.v6⟩,h.f.trans f (fun b q=>h.s0 b (.inr (by rw[q];exact hg))),h.s0,fun b q=>?_⟩
 .rcases List.mem_or_eq_of_mem_set hx with q|rfl
  .exact⟨(hm.ts x q).1.fr f (fun b q2 q3=>((hm.ts x q).2 b q2).2 (by rw[q3];exact hg)),(hm.ts x q).2⟩
  .exact⟨hy.fr f (fun b q2 q3=>(hb2 b q2).2 (by rw[q3];exact hg)),hb2⟩
 .rcases q with q|q|⟨x,hx,q⟩
  .exact h.d b (.inl q)
  .exact h.d b (.inr (.inl q))
  .rcases List.mem_or_eq_of_mem_set hx with q2|rfl
   .exact h.d b (.inr (.inr ⟨x,q2,q⟩))
   .rcases hb b q with⟨z,hz,q2⟩|q2
    .exact h.d b (.inr (.inr ⟨z,hz,q2⟩))
    .exact .inr q2.1
theorem s5_access_near(h:M5 w pb gb ob n K near kept hc s pv)(hi:Inv5 K kept n s)(hT:s.T<10000)(hK:K<1000)(hr:near<1000)(hk:kept<1000){a id:Nat}(ha:a<n){p0:Pa}(hg:getP s.ps id=some p0)(hfar:¬near<s.T+1-p0.l):Calls Try.prog 23 #[.pointer (some ⟨pb,0,none⟩),.int .i64 a,.int .u32 id] w fun e w'=>e=.returned (.tuple #[])∧Res5 w pb gb ob n K near kept hc s pv (s.access K near a id) w':=by
 obtain⟨i,hix⟩:=getP_idx hg;have hpi:s.ps[i]?=some p0:=by rw[<-hg];exact idxP_get hix hi.one
 obtain⟨v0,hpv⟩:∃v0,pv[i]?=some (p0,v0):=by
  rw[h.ps,List.getElem?_map]at hpi
  cases e:pv[i]? with
  |none=>rw[e]at hpi;cases hpi
  |some x=>
   rw[e]at hpi;obtain⟨x1,x2⟩:=x;have:x1=p0:=by simpa using hpi
   exact⟨x2,by rw[this]⟩
 have hil:i<pv.length:=(List.getElem?_eq_some_iff.1 hpv).1;have hpo:=hi.ok p0 (getP_mem hg).1;have hl1:=hpo.l1;have hlT:=hpo.lT;have HPO:=Lib.hid hpo;have HIX:=Lib.hid hix;have HPI:=Lib.hid hpi;have HPV:=Lib.hid hpv;have HG:=Lib.hid hg;clear hg hix hpi hpv hpo;have hpl:pv.length<100000:=by rw[<-h.pl];have:=hi.len;omega
 have hol:=hi.ok2;have hn:=h.g.hn;have hk1:=hi.k1;obtain⟨a7,k7,e7,q5,q6,hs7,_⟩:=h.g.row (i:=7) (k:=.u32) (l:=s.old) rfl;have c8:=h.g.c 8 (by omega) h.c8;have c4:=h.g.c 4 (by omega) h.c4;have c7:=h.g.c 7 (by omega) e7;have cp:=h.g.cp ha;have fp:=h.g.pg.frozen a;have f8:=h.g.hd.frozen 8;have lg:=h.g.pg.lt;have lp:=h.g.hd.lt;have d1:=h.g.d1;have d1':¬gb=pb:=fun e=>d1 e.symm
 have hP2:=((P5.start h).setT (s.T+1)).setPage ha id;rw[show((s.T+1:Nat):Int)=(s.T:Int)+1 from by omega]at hP2
 have hs7':SlK .u32 ((w.setCell ⟨pb,8,none⟩ (.int .i64 ((s.T:Int)+1))).setCell ⟨gb,a,none⟩ (.int .u32 (id:Nat))) (.slice a7 s.old.length k7) s.old:=by
  have:=(hP2.m.g.sl 7 .u32 s.old rfl).1;rw[upd_other _ _ (by omega),e7]at this;exact this
 have HW:=Lib.hid (WithoutPage_calls hs7' (by omega) id);have HP2:=Lib.hid hP2;have E7:=Lib.hid e7;have HM:=Lib.hid h;have HI:=Lib.hid hi;generalize s.page.getD a 0=y at cp;clear hP2 hs7 hs7' e7 h hi;go_enter Try.func23,Try.ntmps23
 go_wp2_with fail
 refine HW.out.mono ?_;clear HW;rintro e w1⟨v2,rfl,ho2,hf2⟩;obtain⟨a2,k2,rfl,_,_⟩:=ho2.sl.shape;have hP3:=HP2.out.fr0 hf2;have d7:w1.cell? ⟨pb,7,none⟩=some (.slice a7 s.old.length k7):=hP3.m.g.c 7 (by omega) (by rw[upd_other _ _ (by omega)];exact E7.out);have f7:=hP3.m.g.hd.frozen 7;have lp1:=hP3.m.g.hd.lt;have hP4:=hP3.setOld ho2.sl (fun b q=>.inl ⟨by have:=ho2.base b q;simpa using this,fun r=>by have h1:=HP2.out.m.lt b r;have h2:=ho2.base b q;omega⟩);obtain⟨hc4,hhc4⟩:∃z,z=upd (upd hc 8 (.int .i64 ((s.T:Int)+1))) 7 (.slice a2 (awayN s.old id).length k2):=⟨_,rfl⟩;rw[<-hhc4]at hP4;have HP4:=Lib.hid hP4;clear ho2 hf2 hP3 hP4 hhc4 HP2 E7 c8 c4 c7 cp fp f8 lg lp d1 d1' q5 q6;have HOF:Hid (Calls Try.prog 45 #[.pointer (some ⟨pb,0,none⟩),.int .u32 id] (w1.setCell ⟨pb,7,none⟩ (.slice a2 (awayN s.old id).length k2)) fun e w'=>e=.returned (.int .i64 i)∧(w1.setCell ⟨pb,7,none⟩ (.slice a2 (awayN s.old id).length k2))=w'):=(s5_of HP4.out.m (by omega) id).mono fun e w' ⟨z1,z2⟩=>⟨by rw[z1];show Ending.returned (.int .i64 (fstI (idxP s.ps id)))=_;rw[HIX.out];rfl,z2⟩
 go_wp2_with fail
 refine HOF.out.mono ?_;clear HOF;rintro e w4⟨rfl,hw4⟩;rw[hw4]at HP4;clear hw4 d7 f7 lp1;have hp4:=HP4.out;have c1:=hp4.m.g.c 1 (by omega) hp4.m.c1;have c2:=hp4.m.g.c 2 (by omega) hp4.m.c2;have c8:w4.cell? ⟨pb,8,none⟩=some (.int .i64 ((s.T:Int)+1)):=by have:=hp4.m.g.c 8 (by omega) hp4.m.c8;rw[show(((s.T+1:Nat)):Int)=(s.T:Int)+1 from by omega]at this;exact this
 obtain⟨a6,k6,e6,r1,r2⟩:=own_shape hp4.m.own;have c6:=hp4.m.g.c 6 (by omega) e6;have f6:=hp4.m.g.hd.frozen 6;have lp:=hp4.m.g.hd.lt;unfold maxLen at r2;have E6:=Lib.hid e6;clear hp4 e6;obtain⟨b,c,e,_,_,lb,bf,y0,y1,y2⟩:=HP4.out.m.past HPV.out;rw[E6.out]at e;simp only[Value.slice.injEq]at e;obtain⟨rfl,_,rfl⟩:=e;have HV0:=Lib.hid (HP4.out.m.ts (p0,v0) (List.mem_of_getElem? HPV.out));have hs0:SlK .i64 w4 v0 p0.ts:=HV0.out.1;obtain⟨va,vc,rfl,hvc,hvm⟩:=hs0.shape;have HS0:=Lib.hid hs0;clear hs0;have hlen0:=HPO.out.len;simp only at y0 y1 y2 hvc hvm;rw[hlen0]at y2 hvc;have HV1:Hid (SlK .i64 w4 (.slice va K vc) p0.ts):=by have:=HS0.out;rw[hlen0]at this;exact this
 have HV2:Hid (∃y∈pv,y.2=.slice va K vc):=⟨_,List.mem_of_getElem? HPV.out,by simp[hlen0]⟩;have HL0:=Lib.hid hlen0;clear hlen0 bf HV0 HS0;have dn:decide ((near:Int)<(s.T:Int)+1-(p0.l:Int))=false:=by simp;omega
 have HFAR:=Lib.hid hfar;clear hfar
 go_upto_region 9 with fail
 go_quiet (fail)
 rename_i nq;obtain⟨wT,hwT⟩:∃z,z=(w4.alloc (.cells #[.int .u32 (p0.p:Nat),.int .i64 (p0.l:Nat),.slice va K vc] 97)).drewN nq:=⟨_,rfl⟩;obtain⟨xb,hxb⟩:∃z,z=w4.heap.size:=⟨_,rfl⟩
 have HBX:Hid (Blk wT xb 3 (fun i=>(#[.int .u32 (p0.p:Nat),.int .i64 (p0.l:Nat),.slice va K vc]:Array Value).getD i (.int .i64 0))):=by
  unfold Hid;rw[hwT,hxb];refine(Blk.new _ _ _ 3 _ _ rfl rfl (fun i hi=>?_)).drewN _
  match i,hi with
  |0,_=>rfl
  |1,_=>rfl
  |2,_=>rfl
 have HFT:Hid (Fr NoF w4 wT):=by unfold Hid;rw[hwT];exact((Fr.refl NoF w4).alloc _).drewN _
 have HLX:Hid (w4.heap.size<=xb):=by unfold Hid;omega
 have HTV:Hid (SlK .i64 wT (.slice va K vc) p0.ts):=HV1.out.keep HFT.out
 have HTB:Hid (∀b,(Value.slice va K vc).ownBlock=some b->¬b=xb∧((∃y∈pv,y.2.ownBlock=some b)∨w4.heap.size<=b)):=fun b q=>by
  obtain⟨y,hy,e⟩:=HV2.out;exact⟨by have:=HV1.out.lt b q;omega,.inl ⟨y,hy,by rw[e];exact q⟩⟩
 have HTS:Hid (touch K near (s.T+1) p0=⟨p0.p,s.T+1,p0.ts⟩):=by unfold Hid touch;rw[if_neg HFAR.out]
 rw[<-hwT,<-hxb];clear hwT hxb c1 c2 c8 c6 f6 lp lb y0 y1 y2 HV1 HV2;have x0:wT.cell? ⟨xb,0,none⟩=some (.int .u32 (p0.p:Nat)):=HBX.out.cell (i:=0) (by omega);have x1:wT.cell? ⟨xb,1,none⟩=some (.int .i64 (p0.l:Nat)):=HBX.out.cell (i:=1) (by omega);have xf:=HBX.out.frozen 1;have lxb:=HBX.out.lt;have hp4:=HP4.out.fr0 HFT.out;have c8:wT.cell? ⟨pb,8,none⟩=some (.int .i64 ((s.T:Int)+1)):=by have:=hp4.m.g.c 8 (by omega) hp4.m.c8;rw[show(((s.T+1:Nat)):Int)=(s.T:Int)+1 from by omega]at this;exact this
 have lp:=hp4.m.g.hd.lt;clear hp4;generalize p0.l=l0 at x1
 go_upto_region 20 with fail
 obtain⟨wU,hwU⟩:∃z,z=wT.setCell ⟨xb,1,none⟩ (.int .i64 ((s.T:Int)+1)):=⟨_,rfl⟩
 have hBU:Blk wU xb 3 (fun i=>(#[.int .u32 (p0.p:Nat),.int .i64 ((s.T:Int)+1),(.slice va K vc)]:Array Value).getD i (.int .i64 0)):=by
  rw[hwU];refine(HBX.out.set 1 _).congr (fun i hi=>?_)
  match i,hi with
  |0,_=>rfl
  |1,_=>rfl
  |2,_=>rfl
 have hFU:Fr NoF w4 wU:=by
  rw[hwU];exact HFT.out.trans ((Fr.refl (fun i=>i=xb) wT).setCell (.inl rfl) _) (fun i e=>.inr (by subst e;exact HLX.out))
 have hTU:SlK .i64 wU (.slice va K vc) p0.ts:=by
  rw[hwU];exact HTV.out.fr ((Fr.refl (fun i=>i=xb) wT).setCell (.inl rfl) _) (fun b q e=>(HTB.out b q).1 e)
 rw[<-hwU];have HBU:=Lib.hid hBU;have HFU:=Lib.hid hFU;have HTU:=Lib.hid hTU;have hpU:=HP4.out.fr0 hFU;have c6:=hpU.m.g.c 6 (by omega) E6.out;have f6:=hpU.m.g.hd.frozen 6;have lp2:=hpU.m.g.hd.lt;have HSL:=Lib.hid (show SlC wU 3 (.slice (some ⟨b,0,none⟩) pv.length k6) pv.length (cells5 pv)from by have:=hpU.m.sl;rw[E6.out]at this;exact this)
 have FIN:Hid (∀w5 g5 c5,w5.ownsRow wU.heap.size 97 3 (.slice (some ⟨g5,0,none⟩) pv.length c5) pv.length (cells5 pv)->Fr NoF wU w5->∀W',Fr NoF ((((w5.setCell ⟨pb,6,none⟩ (.slice (some ⟨g5,0,none⟩) pv.length c5)).setCell ⟨g5,i*3,none⟩ (.int .u32 (p0.p:Nat))).setCell ⟨g5,i*3+1,none⟩ (.int .i64 ((s.T:Int)+1))).setCell ⟨g5,i*3+2,none⟩ (.slice va K vc)) W'->Res5 w pb gb ob n K near kept hc s pv (s.access K near a id) W'):=by
  intro w5 g5 c5 hown hf W' fW;have hFw5:=HFU.out.trans hf (fun _ q=>q.elim);have hp5:=HP4.out.fr0 hFw5;have hg5:wU.heap.size<=g5:=ownBlock_own hown g5 rfl;have hgn:∀b,(Value.slice (some ⟨g5,0,none⟩) pv.length c5).ownBlock=some b->b=g5:=fun b q=>by simp[Value.ownBlock]at q;omega
  have hFPl:∀b,FP pb gb ob b->b<w4.heap.size:=fun b q=>HP4.out.m.lt b (D5_FP q)
  have hF0:Fr NoF w wU->True:=fun _=>trivial
  have hown':w5.ownsRow 0 97 3 (.slice (some ⟨g5,0,none⟩) pv.length c5) pv.length (cells5 pv):=hown.base0;have hp6:=(HP4.out.fr0 HFU.out).setPs (pv':=pv) (w1:=w5) hf.none hown' (fun b q=>.inr (by rw[hgn b q];exact hg5)) (fun y hy=>.inl hy);have hFl:¬FP pb gb ob g5:=fun q=>by have:=hFPl g5 q;have:=HFU.out.size;omega
  have hsl:SlK .i64 (w5.setCell ⟨pb,6,none⟩ (.slice (some ⟨g5,0,none⟩) pv.length c5)) (.slice va K vc) p0.ts:=(HTU.out.keep hf).fr ((Fr.refl (fun i=>i=pb) w5).setCell (.inl rfl) _) (fun b q e=>by
   subst e;rcases(HTB.out b q).2 with⟨y,hy,q2⟩|q2
   .exact((HP4.out.m.ts y hy).2 b q2).1 (.inl rfl)
   .have:=hFPl b (.inl rfl);omega)
  have hp7:=hp6.setPast (i:=i) (y:=((⟨p0.p,s.T+1,p0.ts⟩:Pa),(.slice va K vc))) (upd_same _ _ _) hil hsl (fun b q=>by
   rcases(HTB.out b q).2 with q2|q2
   .exact .inl q2
   .refine .inr ⟨Nat.le_trans HP4.out.f.size q2,fun r=>by have:=hFPl b r;omega,fun r=>?_⟩
    rw[upd_same]at r;have:=hgn b r;have:=HTU.out.lt b q;omega)
  have e:(pv.set i ((⟨p0.p,s.T+1,p0.ts⟩:Pa),(.slice va K vc))).map (·.1)=accP K near (s.T+1) s.ps id:=by
   unfold accP;rw[HG.out,List.map_set,<-HM.out.ps]
   show s.ps.set i ⟨p0.p,s.T+1,p0.ts⟩=setP s.ps (touch K near (s.T+1) p0)
   rw[HTS.out];exact set_setP HI.out.one HPI.out rfl
  rw[e]at hp7;exact⟨_,_,hp7.fr0 fW⟩
 clear x0 x1 xf lxb c8 lp hBU hFU hTU hpU hwU
 go_wp2_with(at_builtin;go_must(refine appLB (base:=wU.heap.size) EIp rfl _ _ rfl (by rfl) (by rfl) (by simp) (own_new (w0:=wU) (Nat.le_refl _) #[] 97 3 0 _ rfl rfl (by unfold maxLen;omega)) (HSL.out.keep ((Fr.refl NoF _).alloc _)) (by unfold maxLen;omega) (by omega) ?_);intro v5 w5 hown hf5 hob5;rw[Nat.zero_add,List.nil_append]at hown;have HO5:=Lib.hid hown;have HF5:=Lib.hid (((Fr.refl NoF wU).alloc _).trans hf5 (fun i q=>.inr (by simp[Value.ownBlock]at q;omega)));obtain⟨g5,c5,rfl,z1,z2,lg5,fg5,cg5⟩:=own_at hown (by omega);have hpW:=(HP4.out.fr0 HFU.out).fr0 HF5.out;have j6:=hpW.m.g.c 6 (by omega) E6.out;have jf:=hpW.m.g.hd.frozen 6;have jl:=hpW.m.g.hd.lt;have hB5:=HBU.out.fr HF5.out (fun q=>q);have e0:=hB5.cell (i:=0) (by omega);have e1:=hB5.cell (i:=1) (by omega);have e2:=hB5.cell (i:=2) (by omega);have lx5:=hB5.lt;obtain⟨o0',o1',o2'⟩:=cells5_get HPV.out;have o0:=cg5 _ _ o0';have o1:=cg5 _ _ o1';have o2:=cg5 _ _ o2';have of0:=fg5 (i*3);have of1:=fg5 (i*3+1);have of2:=fg5 (i*3+2);clear o0' o1' o2' cg5 fg5;replace e0:w5.cell? ⟨xb,0,none⟩=some (.int .u32 (p0.p:Nat)):=e0;replace e1:w5.cell? ⟨xb,1,none⟩=some (.int .i64 ((s.T:Int)+1)):=e1;replace e2:w5.cell? ⟨xb,2,none⟩=some (.slice va K vc):=e2;have hgp:¬g5=pb:=(by have h1:=ownBlock_own hown g5 rfl;omega);have hgx:¬g5=xb:=(by have h1:=ownBlock_own hown g5 rfl;have h2:=HBU.out.lt;omega);have HY:=Lib.hid (FIN.out _ _ _ hown HF5.out);clear hown hf5 hob5 hpW hB5)
 go_region
 all_goals
  go_wp2;go_returns;exact⟨rfl,HY.out _ (by repeat(first|exact Fr.refl NoF _|apply Fr.drewN|apply Fr.drew))⟩
end
end
end Go.Proofs.Ytcccbdnojlmgaaa
