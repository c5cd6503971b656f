/- Part 15. -/
import Derived.Test.YtcccbdnojlmgaaaK14
namespace Go.Proofs.Ytcccbdnojlmgaaa
set_option linter.all false
set_option maxHeartbeats 16000000
set_option maxRecDepth 100000
section
open Go.Maps Go.RowKit
section
variable{w w':World}{lb fb mb q1 q2 q3 q4 ne:Nat}{S:LK}{FC F4:Nat->Prop}
theorem access_new(h:LM w lb S fb mb q1 q2 q3 q4 ne FC F4){at' page:Nat}(ha:at'<S.n)(hp:okN page)(hT:S.T<900000)(hfu:(S.fr at').1=false):Calls Try.prog 15 #[.pointer (some ⟨lb,0,none⟩),.int .i64 at',.int .u32 page] w fun e w'=>e=.returned (.tuple #[])∧∃ne' FC' F4',LM w' lb (accS S at' page) fb mb q1 q2 q3 q4 ne' FC' F4'∧Fr (LF lb fb mb FC F4) w w'∧(∀i,FC' i->FC i∨w.heap.size<=i)∧∀i,F4' i->F4 i∨w.heap.size<=i:=by
 have HI:=Lib.hid (isFrame_calls h ha);have c4:w.cell? ⟨lb,4,none⟩=some (.slice (some ⟨fb,0,none⟩) S.n S.n):=h.ce 4 (by omega);have lt:=h.blk.lt;have lf:=h.frs.lt;have fz0:=h.frs.frozen (at'*2);have fz1:=h.frs.frozen (at'*2+1);have hfc:w.cell? ⟨fb,at'*2,none⟩=some (.bool false):=by rw[<-hfu];exact h.full ha
 have hpc:w.cell? ⟨fb,at'*2+1,none⟩=some (.int .u32 ((S.fr at').2:Nat)):=h.page ha;have ha1:(at':Int)<S.n:=by omega
 have ha0:0<=(at':Int):=by omega
 have hcv:IntKind.i64.wrap (page:Int)=(page:Int):=IntWalk.i64_in _ (by unfold okN at hp;omega);have fX:Fr (fun i=>i=fb) w ((w.setCell ⟨fb,at'*2,none⟩ (.bool true)).setCell ⟨fb,at'*2+1,none⟩ (.int .u32 page)):=((Fr.refl (fun i=>i=fb) w).setCell (p:=⟨fb,at'*2,none⟩) (.inl rfl) _).setCell (p:=⟨fb,at'*2+1,none⟩) (.inl rfl) _;have hbX:=(h.frs.set (at'*2) (.bool true)).set (at'*2+1) (.int .u32 page);rw[frC_both]at hbX
 have hX:=h.newFr hbX fX (fun i=>by
  unfold updF
  split
  .exact hp
  .exact h.ok.fr i)
 have HX:=Lib.hid hX;have HFX:=Lib.hid fX;have HFU:=Lib.hid hfu;have H0:=Lib.hid h;have HTT:=Lib.hid hT;have HAA:Hid (at'<S.n):=ha;have HPP0:=Lib.hid hp;clear h hfu hT ha hp hX fX hbX;generalize hop:(S.fr at').2=op at hpc;clear hop;go_enter Try.func15,Try.ntmps15
 go_wp2_with fail
 refine HI.out.mono ?_;rintro e w1⟨rfl,rfl⟩
 go_upto_region 4 with fail
 generalize(w.setCell ⟨fb,at'*2,none⟩ (.bool true)).setCell ⟨fb,at'*2+1,none⟩ (.int .u32 page)=wX at*;clear c4 hfc hpc HI lt lf ha1 ha0 fz0 fz1;have HD:=Lib.hid (qk_drop HX.out.qk HPP0.out);have c9:wX.cell? ⟨lb,9,none⟩=some (.pointer (some ⟨q4,0,none⟩)):=HX.out.ce 9 (by omega);have lt:=HX.out.blk.lt
 go_wp2_with fail
 refine HD.out.mono ?_;rintro e wB⟨rfl,hq,fq⟩;have hord:=HX.out.ok.ord;have e1:=oldK_wo S.Old page;have e2:=woO_len hord page;have hq':QK wB q4 (oldK (woO S.Old page)) (woO S.Old page).length F4:=by rw[e1,e2];exact hq
 have hB0:=HX.out.newQ hq' fq (fun i q=>.inl q) (fun p q=>HX.out.ok.old p (woO_mem q).1) (by
  have:=HX.out.ok.oldn;have h3:(woO S.Old page).length<=S.Old.length:=List.length_filter_le _ _;exact Nat.le_trans h3 this) (woO_ord hord page)
 have HFRB:Hid (Fr (LF lb fb mb FC F4) w wB):=(HFX.out.mono (fun i q=>.inr (.inl q))).trans fq (fun i q=>.inl (.inr (.inr (.inr (.inr q)))));have HGB:Hid (∀i,F4 i->F4 i∨w.heap.size<=i):=fun i q=>.inl q
 obtain⟨SB,hSB⟩:∃SB:LK,SB={S with fr:=updF S.fr at' (true,page),Old:=woO S.Old page}:=⟨_,rfl⟩
 have eAcc:Hid (accS S at' page=rerS (touS SB (SB.fr at').2) at'):=by
  rw[hSB];unfold accS comS;rw[if_neg (by rw[HFU.out];simp)];rfl
 have hB:LM wB lb SB fb mb q1 q2 q3 q4 ne FC F4:=by rw[hSB];exact hB0
 have HA:Hid (at'<SB.n):=by rw[hSB];exact HAA.out
 have hTB:SB.T<900000:=by rw[hSB];exact HTT.out
 clear hB0 hq hq' e1 e2 hord fq HD c9 lt hSB H0 HX HFX;generalize(oldK S.Old page).isSome=ob at*;obtain⟨g1,hg1⟩:∃g1:Int,g1=((SB.T+1:Nat):Int):=⟨_,rfl⟩;have hw:IntKind.i64.wrap ((SB.T:Int)+1)=g1:=by rw[show((SB.T:Int)+1)=((SB.T+1:Nat):Int)from by omega,hg1];exact IntWalk.i64_in _ (by omega)
 obtain⟨h1,f1⟩:=hB.tick (z:=g1) hg1;have HB:=Lib.hid hB;have H1:=Lib.hid h1;have HF1:=Lib.hid f1;have HG1:=Lib.hid hg1;have c3:wB.cell? ⟨lb,3,none⟩=some (.int .i64 SB.T):=hB.ce 3 (by omega);have lt:=hB.blk.lt;have fz:=hB.blk.frozen 3;have HTB:=Lib.hid hTB;clear hB h1 f1 hg1 hTB
 go_upto_region 6 with fail
 generalize wB.setCell ⟨lb,3,none⟩ (.int .i64 g1)=wC at*;clear c3 lt fz hw;obtain⟨PG,hPG⟩:∃PG,PG=(SB.fr at').2:=⟨_,rfl⟩;have HPG:=Lib.hid hPG;have c0:wC.cell? ⟨lb,0,none⟩=some (.int .i64 SB.k):=H1.out.ce 0 (by omega);have c1:wC.cell? ⟨lb,1,none⟩=some (.int .i64 SB.near):=H1.out.ce 1 (by omega);have c3:wC.cell? ⟨lb,3,none⟩=some (.int .i64 g1):=by rw[HG1.out];exact H1.out.ce 3 (by omega)
 have c5:wC.cell? ⟨lb,5,none⟩=some (.map (some mb)):=H1.out.ce 5 (by omega);have pgc:wC.cell? ⟨fb,at'*2+1,none⟩=some (.int .u32 (PG:Nat)):=by rw[hPG];exact H1.out.page HA.out
 have lt:=H1.out.blk.lt;have lf:=H1.out.frs.lt;have hpk:okN PG:=by rw[hPG];exact HB.out.ok.fr at'
 have HD:=Lib.hid (H1.out.fr0 ((Fr.refl NoF wC).drew));have hwf:=okN_wf hpk;have hlk:(Instr.lookup 45 (.map (some mb)) (.int .u32 (PG:Nat)) false).run Try.prog wC.drew=.ok (pastV (pastOf SB PG).1 (pastOf SB PG).2) wC.drew:=HD.out.look hpk;have hpo:=HB.out.pastok PG;have HT:Hid (∀W,Fr NoF wC W->Calls Try.prog 29 #[pastV (pastOf SB PG).1 (pastOf SB PG).2,.int .i64 g1,.int .i64 SB.near,.int .i64 SB.k] W fun e w'=>e=.returned (pastV g1 (touchT (pastOf SB PG).1 (pastOf SB PG).2 g1 SB.near SB.k))∧Fr NoF wC w'):=fun W fW=>(touched_any _ _ _ _ _ HB.out.ok.k1 ⟨hpo.1,by rw[HG1.out];omega,by rw[HG1.out];have:=HTB.out;omega⟩ hpo.2.2).mono fun e w' ⟨he,hf⟩=>⟨he,fW.trans hf (fun _ q=>q.elim)⟩
 clear hpo hPG;have HPK:=Lib.hid hpk;clear hpk;generalize hpv:pastV (pastOf SB PG).1 (pastOf SB PG).2=pv at*;have HPV:=Lib.hid hpv;clear hpv;have HTV:Hid (pastV g1 (touchT (pastOf SB PG).1 (pastOf SB PG).2 g1 SB.near SB.k)=pastV g1 (touchT (pastOf SB PG).1 (pastOf SB PG).2 g1 SB.near SB.k)):=rfl;generalize htv:pastV g1 (touchT (pastOf SB PG).1 (pastOf SB PG).2 g1 SB.near SB.k)=tv at HT;have HTV2:=Lib.hid htv;clear htv HTV
 have HC:Hid (∀W,Fr (fun i=>i=mb) wC W->W.cell? ⟨lb,0,none⟩=some (.int .i64 SB.k)∧W.cell? ⟨lb,1,none⟩=some (.int .i64 SB.near)∧W.cell? ⟨lb,3,none⟩=some (.int .i64 g1)∧W.cell? ⟨lb,5,none⟩=some (.map (some mb))∧W.cell? ⟨fb,at'*2+1,none⟩=some (.int .u32 (PG:Nat))):=fun W f=>
  ⟨(f.cell (p:=⟨lb,0,none⟩) H1.out.blk.lt (fun q=>H1.out.d2 q.symm)).trans c0,(f.cell (p:=⟨lb,1,none⟩) H1.out.blk.lt (fun q=>H1.out.d2 q.symm)).trans c1,(f.cell (p:=⟨lb,3,none⟩) H1.out.blk.lt (fun q=>H1.out.d2 q.symm)).trans c3,(f.cell (p:=⟨lb,5,none⟩) H1.out.blk.lt (fun q=>H1.out.d2 q.symm)).trans c5,(f.cell (p:=⟨fb,at'*2+1,none⟩) H1.out.frs.lt (fun q=>H1.out.d3 q.symm)).trans pgc⟩
 have hmx:ne<1000000:=by have:=HB.out.ne;have:=HTB.out;omega
 have HMX:=Lib.hid hmx;clear hmx
 go_region_held3(fun w'=>w'.cell? ⟨lb,0,none⟩=some (.int .i64 SB.k)∧w'.cell? ⟨lb,1,none⟩=some (.int .i64 SB.near)∧w'.cell? ⟨lb,3,none⟩=some (.int .i64 g1)∧w'.cell? ⟨lb,5,none⟩=some (.map (some mb))∧w'.cell? ⟨fb,at'*2+1,none⟩=some (.int .u32 (PG:Nat)))
  (exact HC.out _ (by repeat(first|exact FM.out|exact FT.out.none|exact Fr.refl _ _|apply Fr.drew)))
  (first
  |(go_at_call 29;(with_reducible refine(HT.out _ (by repeat(first|exact Fr.refl NoF _|apply Fr.drew))).mono ?_);rintro e wT⟨rfl,fT⟩;obtain⟨wM,hrun,m1,m2⟩:=(H1.out.fr0 fT).mp.put_run MVp HMX.out hwf tv;have KM:=Lib.hid m1;have KF:=Lib.hid m2;have FT:=Lib.hid fT;have FM:Hid (Fr (fun i=>i=mb) wC wM):=fT.none.trans m2 (fun _ q=>.inl q);clear fT m1 m2))
 go_wp2_with fail
 obtain⟨ne2,h2⟩:=HB.out.touch HG1.out (H1.out.fr0 FT.out) (pg:=PG) (by rw[HTV2.out];exact KM.out) KF.out;have hfM:Fr (LF lb fb mb FC F4) w wM:=(HFRB.out.trans HF1.out (fun i q=>.inl (.inl q))).trans FM.out (fun i q=>.inl (.inr (.inr (.inl q))));obtain⟨S2,hS2⟩:∃S2,S2=touS SB PG:=⟨_,rfl⟩;have e1:S2.fr=SB.fr:=by rw[hS2];rfl
 have e2:S2.n=SB.n:=by rw[hS2];rfl
 have e3:S2.T<1000000:=by rw[hS2];show SB.T+1<1000000;have:=HTB.out;omega
 have ha2:at'<S2.n:=by rw[e2];exact HA.out
 have hEA:accS S at' page=rerS S2 at':=by rw[eAcc.out,hS2,HPG.out]
 rw[<-hS2]at h2;have hpg2:(S2.fr at').2=PG:=by rw[e1];exact HPG.out.symm
 have HEA:=Lib.hid hEA;have H2:=Lib.hid h2;have HFM:=Lib.hid hfM;have HE3:=Lib.hid e3;have HA2:=Lib.hid ha2;have HPG2:=Lib.hid hpg2;have hat:okN at':=by have:=h2.ok.n1;unfold okN;omega
 have HAT:=Lib.hid hat;have HH:=Lib.hid (cc_has h2.cc hat);clear c0 c1 c3 c5 pgc lt lf hlk hwf hrun HT HC KM KF FT FM HB H1 HTV2 HPV HFRB hS2 e1 e2 e3 ha2 hEA h2 hpg2 hat hfM HG1 HTB HF1 HPG eAcc;refine HH.out.mono ?_;rintro e wN⟨rfl,fN⟩;have h3:=H2.out.fr0 fN;have H3:=Lib.hid h3;have HFN:Hid (Fr (LF lb fb mb FC F4) w wN):=HFM.out.trans fN (fun _ q=>q.elim);have pgc:wN.cell? ⟨fb,at'*2+1,none⟩=some (.int .u32 (PG:Nat)):=by rw[<-HPG2.out];exact h3.page HA2.out
 have lt:=h3.blk.lt;have lf:=h3.frs.lt;clear h3 fN HH
 cases hR:(S2.R at').isSome with
 |false=>
  have HR:=Lib.hid hR;clear hR;go_wp2;go_returns;rw[HEA.out];unfold rerS;rw[if_neg (by rw[HR.out];simp)];exact⟨rfl,ne2,FC,F4,H3.out,HFN.out,fun i q=>.inl q,HGB.out⟩
 |true=>
  have HR:=Lib.hid hR;clear hR;have hrk:=H3.out.pastok PG
  have hk8:0<=(rankOf S2 PG).1∧(rankOf S2 PG).1<=S2.T∧0<=(rankOf S2 PG).2∧(rankOf S2 PG).2<=S2.T:=by
   have:=hrk.2.2 (S2.k-1);unfold rankOf;simp only;omega
  have HRK:=Lib.hid hk8;have HCR:Hid (∀W,Fr NoF wN W->Calls Try.prog 32 #[.pointer (some ⟨lb,0,none⟩),.int .u32 PG] W fun e w'=>e=.returned (.agg #[.int .i64 (rankOf S2 PG).1,.int .i64 (rankOf S2 PG).2])∧Fr NoF wN w'):=fun W f=>(rank_calls (H3.out.fr0 f) HPK.out).mono fun e w' ⟨he,hf⟩=>⟨he,f.trans hf (fun _ q=>q.elim)⟩
  clear hrk hk8;generalize hr1:(rankOf S2 PG).1=r1 at*;generalize hr2:(rankOf S2 PG).2=r2 at*;have HR1:=Lib.hid hr1;have HR2:=Lib.hid hr2;clear hr1 hr2;have HC2:Hid (∀W,Fr NoF wN W->W.cell? ⟨fb,at'*2+1,none⟩=some (.int .u32 (PG:Nat))):=fun W f=>by rw[<-HPG2.out];exact(H3.out.fr0 f).page HA2.out
  have HP:Hid (∀W,Fr NoF wN W->Calls Try.prog 31 #[.pointer (some ⟨lb,6,none⟩),.int .i64 at',.agg #[.int .i64 r1,.int .i64 r2]] W fun e w'=>e=.returned (.tuple #[])∧∃FC',LM w' lb {S2 with R:=updK S2.R at' (some (r1,r2)),Fa:=updB1 S2.Fa at' false,t:=S2.t} fb mb q1 q2 q3 q4 ne2 FC' F4∧Fr FC wN w'∧(∀i,FC' i->FC i∨wN.heap.size<=i)∧w'.cell? ⟨fb,at'*2+1,none⟩=some (.int .u32 (PG:Nat))):=fun W f=>by
   have h5:=H3.out.fr0 f;refine(cc_put h5.cc HAT.out (a:=r1) (b:=r2) (i64_in (by have:=HRK.out;have:=HE3.out;omega)) (i64_in (by have:=HRK.out;have:=HE3.out;omega)) (by have:=h5.ok.tle;have:=h5.ok.n1;omega)).mono ?_;rintro e wP⟨he,FC',hc,fP,hFC⟩;rw[HR.out]at hc;have h6:=h5.newCC hc fP hFC (by show moreN S2.t true=cntR (updK S2.R at' (some (r1,r2))) S2.n;rw[cntR_put _ _ HA2.out,HR.out,<-H3.out.ok.tn]);exact⟨he,FC',h6,f.none.trans fP (fun i q=>.inl q),fun i q=>(hFC i q).elim .inl (fun z=>.inr (Nat.le_trans f.size z)),by rw[<-HPG2.out];exact h6.page HA2.out⟩
  go_wp2_with fail
  go_region_held3(fun w'=>w'.cell? ⟨fb,at'*2+1,none⟩=some (.int .u32 (PG:Nat)))
   (first|exact HPP.out|exact HC2.out _ (by repeat(first|exact FR.out|exact Fr.refl NoF _|apply Fr.drew)))
   (first
   |(go_at_call 32;(with_reducible refine(HCR.out _ (by repeat(first|exact Fr.refl NoF _|apply Fr.drew))).mono ?_);rintro e wR⟨rfl,fR⟩;have FR:=Lib.hid fR;clear fR)
   |(go_at_call 31;(with_reducible refine(HP.out _ (by repeat(first|exact FR.out|apply Fr.drew))).mono ?_);rintro e wP⟨rfl,FC',h6,fP,hFC,hpp⟩;have HPP:=Lib.hid hpp;have H6:=Lib.hid h6;have FP:=Lib.hid fP;have HFC:=Lib.hid hFC;clear h6 fP hFC hpp))
  go_wp2;go_returns;rw[HEA.out];unfold rerS;rw[if_pos HR.out,HPG2.out]
  exact⟨rfl,ne2,FC',F4,by
   have:=H6.out;rw[<-HR1.out,<-HR2.out]at this;exact this,HFN.out.trans FP.out (fun i q=>.inl (.inr (.inr (.inr (.inl q))))),fun i q=>(HFC.out i q).elim .inl (fun z=>.inr (Nat.le_trans HFN.out.size z)),HGB.out⟩
end
def setS(S:LK)(at':Nat)(on:Bool):LK:=
 if(S.R at').isSome=on then S
 else if on then{S with R:=updK S.R at' (some (rankOf S (S.fr at').2)),Fa:=updB1 S.Fa at' false,t:=S.t+1}
 else{S with R:=updK S.R at' none,t:=S.t-1}
def remvS(S:LK)(at':Nat):LK:=
 {S with fr:=updF S.fr at' (false,(S.fr at').2),R:=updK S.R at' none,t:=lessN S.t (S.R at').isSome,P:=updO S.P (S.fr at').2 none}
section
variable{w w':World}{lb fb mb q1 q2 q3 q4 ne:Nat}{S:LK}{FC F4:Nat->Prop}
theorem set_calls(h:LM w lb S fb mb q1 q2 q3 q4 ne FC F4){at':Nat}(ha:at'<S.n)(hfu:(S.fr at').1=true)(hT:S.T<1000000)(on:Bool):Calls Try.prog 16 #[.pointer (some ⟨lb,0,none⟩),.int .i64 at',.bool on] w fun e w'=>e=.returned (.tuple #[])∧∃FC',LM w' lb (setS S at' on) fb mb q1 q2 q3 q4 ne FC' F4∧Fr (LF lb fb mb FC F4) w w'∧(∀i,FC' i->FC i∨w.heap.size<=i):=by
 have hat:okN at':=by have:=h.ok.n1;unfold okN;omega
 have HI:=Lib.hid (has_calls h ha);rw[hfu]at HI;have HH:=Lib.hid (cc_has h.cc hat);have H0:=Lib.hid h;have HA:Hid (at'<S.n):=ha;have HAT:=Lib.hid hat;have lt:=h.blk.lt;have HT:=Lib.hid hT;have HPK:=Lib.hid (h.ok.fr at');obtain⟨PG,hPG⟩:∃PG,PG=(S.fr at').2:=⟨_,rfl⟩;rw[<-hPG]at HPK;have HPG:=Lib.hid hPG;clear h hat hfu hT ha hPG
 cases hR:(S.R at').isSome with
 |false=>
  have HR:=Lib.hid hR;rw[hR]at HH;clear hR
  cases on with
  |false=>
   have HS:Hid (setS S at' false=S):=by unfold Hid setS;rw[if_pos HR.out]
   go_enter Try.func16,Try.ntmps16
   go_wp2_with fail
   refine HI.out.mono ?_;rintro e w1⟨rfl,rfl⟩
   go_wp2_with fail
   refine HH.out.mono ?_;rintro e w1⟨rfl,f1⟩;have HF1:=Lib.hid f1;clear f1;go_wp2;go_returns;rw[HS.out];exact⟨rfl,FC,H0.out.fr0 HF1.out,HF1.out.none,fun i q=>.inl q⟩
  |true=>
   have HS:Hid (setS S at' true={S with R:=updK S.R at' (some (rankOf S PG)),Fa:=updB1 S.Fa at' false,t:=S.t+1}):=by unfold Hid setS;rw[if_neg (by rw[HR.out];simp),if_pos rfl,HPG.out]
   have ha1:(at':Int)<S.n:=by have:=HA.out;omega
   have ha0:0<=(at':Int):=by omega
   go_enter Try.func16,Try.ntmps16
   go_wp2_with fail
   refine HI.out.mono ?_;rintro e w1⟨rfl,rfl⟩
   go_wp2_with fail
   refine HH.out.mono ?_;rintro e wN⟨rfl,fN⟩;have h3:=H0.out.fr0 fN;have H3:=Lib.hid h3;have HFN:Hid (Fr (LF lb fb mb FC F4) w wN):=fN.none;have c4:wN.cell? ⟨lb,4,none⟩=some (.slice (some ⟨fb,0,none⟩) S.n S.n):=h3.ce 4 (by omega);have pgc:wN.cell? ⟨fb,at'*2+1,none⟩=some (.int .u32 (PG:Nat)):=by rw[HPG.out];exact h3.page HA.out
   have lt:=h3.blk.lt;have lf:=h3.frs.lt;clear h3 fN HH HI;have hrk:=H3.out.pastok PG
   have hk8:0<=(rankOf S PG).1∧(rankOf S PG).1<=S.T∧0<=(rankOf S PG).2∧(rankOf S PG).2<=S.T:=by
    have:=hrk.2.2 (S.k-1);unfold rankOf;simp only;omega
   have HRK:=Lib.hid hk8;have HCR:Hid (∀W,Fr NoF wN W->Calls Try.prog 32 #[.pointer (some ⟨lb,0,none⟩),.int .u32 PG] W fun e w'=>e=.returned (.agg #[.int .i64 (rankOf S PG).1,.int .i64 (rankOf S PG).2])∧Fr NoF wN w'):=fun W f=>(rank_calls (H3.out.fr0 f) HPK.out).mono fun e w' ⟨he,hf⟩=>⟨he,f.trans hf (fun _ q=>q.elim)⟩
   clear hrk hk8;generalize hr1:(rankOf S PG).1=r1 at*;generalize hr2:(rankOf S PG).2=r2 at*;have HR1:=Lib.hid hr1;have HR2:=Lib.hid hr2;clear hr1 hr2;have HC2:Hid (∀W,Fr NoF wN W->W.cell? ⟨lb,4,none⟩=some (.slice (some ⟨fb,0,none⟩) S.n S.n)∧W.cell? ⟨fb,at'*2+1,none⟩=some (.int .u32 (PG:Nat))):=fun W f=>⟨(H3.out.fr0 f).ce 4 (by omega),by rw[HPG.out];exact(H3.out.fr0 f).page HA.out⟩
   have HP:Hid (∀W,Fr NoF wN W->Calls Try.prog 31 #[.pointer (some ⟨lb,6,none⟩),.int .i64 at',.agg #[.int .i64 r1,.int .i64 r2]] W fun e w'=>e=.returned (.tuple #[])∧∃FC',LM w' lb {S with R:=updK S.R at' (some (r1,r2)),Fa:=updB1 S.Fa at' false,t:=S.t+1} fb mb q1 q2 q3 q4 ne FC' F4∧Fr FC wN w'∧(∀i,FC' i->FC i∨wN.heap.size<=i)∧w'.cell? ⟨lb,4,none⟩=some (.slice (some ⟨fb,0,none⟩) S.n S.n)∧w'.cell? ⟨fb,at'*2+1,none⟩=some (.int .u32 (PG:Nat))):=fun W f=>by
    have h5:=H3.out.fr0 f;refine(cc_put h5.cc HAT.out (a:=r1) (b:=r2) (i64_in (by have:=HRK.out;have:=HT.out;omega)) (i64_in (by have:=HRK.out;have:=HT.out;omega)) (by have:=h5.ok.tle;have:=h5.ok.n1;omega)).mono ?_;rintro e wP⟨he,FC',hc,fP,hFC⟩;rw[HR.out]at hc;have h6:=h5.newCC hc fP hFC (by rw[cntR_put _ _ HA.out,HR.out,<-H3.out.ok.tn]);exact⟨he,FC',h6,f.none.trans fP (fun i q=>.inl q),fun i q=>(hFC i q).elim .inl (fun z=>.inr (Nat.le_trans f.size z)),h6.ce 4 (by omega),by rw[HPG.out];exact h6.page HA.out⟩
   go_wp2_with fail
   go_region_held3(fun w'=>w'.cell? ⟨lb,4,none⟩=some (.slice (some ⟨fb,0,none⟩) S.n S.n)∧w'.cell? ⟨fb,at'*2+1,none⟩=some (.int .u32 (PG:Nat)))
    (first|exact HPP.out|exact HC2.out _ (by repeat(first|exact FR.out|exact Fr.refl NoF _|apply Fr.drew)))
    (first
    |(go_at_call 32;(with_reducible refine(HCR.out _ (by repeat(first|exact Fr.refl NoF _|apply Fr.drew))).mono ?_);rintro e wR⟨rfl,fR⟩;have FR:=Lib.hid fR;clear fR)
    |(go_at_call 31;(with_reducible refine(HP.out _ (by repeat(first|exact FR.out|apply Fr.drew))).mono ?_);rintro e wP⟨rfl,FC',h6,fP,hFC,hpp⟩;have HPP:=Lib.hid hpp;have H6:=Lib.hid h6;have FP:=Lib.hid fP;have HFC:=Lib.hid hFC;clear h6 fP hFC hpp))
   go_wp2;go_returns;rw[HS.out]
   exact⟨rfl,FC',by
    have:=H6.out;rw[<-HR1.out,<-HR2.out]at this;exact this,HFN.out.trans FP.out (fun i q=>.inl (.inr (.inr (.inr (.inl q))))),fun i q=>(HFC.out i q).elim .inl (fun z=>.inr (Nat.le_trans HFN.out.size z))⟩
 |true=>
  have HR:=Lib.hid hR;rw[hR]at HH;clear hR
  cases on with
  |true=>
   have HS:Hid (setS S at' true=S):=by unfold Hid setS;rw[if_pos HR.out]
   go_enter Try.func16,Try.ntmps16
   go_wp2_with fail
   refine HI.out.mono ?_;rintro e w1⟨rfl,rfl⟩
   go_wp2_with fail
   refine HH.out.mono ?_;rintro e w1⟨rfl,f1⟩;have HF1:=Lib.hid f1;clear f1;go_wp2;go_returns;rw[HS.out];exact⟨rfl,FC,H0.out.fr0 HF1.out,HF1.out.none,fun i q=>.inl q⟩
  |false=>
   have HS:Hid (setS S at' false={S with R:=updK S.R at' none,t:=S.t-1}):=by unfold Hid setS;rw[if_neg (by rw[HR.out];simp),if_neg (by simp)]
   go_enter Try.func16,Try.ntmps16
   go_wp2_with fail
   refine HI.out.mono ?_;rintro e w1⟨rfl,rfl⟩
   go_wp2_with fail
   refine HH.out.mono ?_;rintro e wN⟨rfl,fN⟩;have h3:=H0.out.fr0 fN;have HD:=Lib.hid (cc_drop h3.cc HAT.out);have H3:=Lib.hid h3;have HFN:=Lib.hid fN;have lt:=h3.blk.lt;clear h3 fN HH HI
   go_wp2_with fail
   refine HD.out.mono ?_;rintro e w2⟨rfl,hc,f2⟩;rw[HR.out]at hc;have h4:=H3.out.newCC hc f2 (fun i q=>.inl q) (by rw[cntR_drop _ HA.out,HR.out,<-H3.out.ok.tn]);have H4:=Lib.hid h4;have HF2:=Lib.hid f2;clear h4 hc f2;go_wp2;go_returns;rw[HS.out];exact⟨rfl,FC,H4.out,HFN.out.none.trans HF2.out (fun i q=>.inl (.inr (.inr (.inr (.inl q))))),fun i q=>.inl q⟩
theorem access_calls(h:LM w lb S fb mb q1 q2 q3 q4 ne FC F4){at' page:Nat}(ha:at'<S.n)(hp:okN page)(hT:S.T<900000):Calls Try.prog 15 #[.pointer (some ⟨lb,0,none⟩),.int .i64 at',.int .u32 page] w fun e w'=>e=.returned (.tuple #[])∧∃ne' FC' F4',LM w' lb (accS S at' page) fb mb q1 q2 q3 q4 ne' FC' F4'∧Fr (LF lb fb mb FC F4) w w'∧(∀i,FC' i->FC i∨w.heap.size<=i)∧∀i,F4' i->F4 i∨w.heap.size<=i:=by
 cases e:(S.fr at').1 with
 |true=>exact access_full h ha hp hT e
 |false=>exact access_new h ha hp hT e
end
end
end Go.Proofs.Ytcccbdnojlmgaaa
