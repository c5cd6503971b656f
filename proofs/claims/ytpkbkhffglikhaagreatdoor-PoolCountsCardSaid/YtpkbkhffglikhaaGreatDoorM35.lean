/- Part 35. -/
import Derived.Test.YtpkbkhffglikhaaGreatDoorM34
namespace Go.Proofs.YtpkbkhffglikhaaGreatDoor
set_option linter.all false
set_option maxHeartbeats 16000000
set_option maxRecDepth 100000
section
open Go.Maps Go.Proofs.Tryz Go.RowKit
theorem touched_any{w:World}(last:Int)(t:Nat->Int)(now near:Int)(k:Nat)(hk:1<=k/\k<=8)(hb:0<=last/\last<=now/\now<100000000)(ht:∀j,0<=t j/\t j<=last/\t j<=t 0):Calls prog 153 #[pastV last t,.int .i64 now,.int .i64 near,.int .i64 k] w λe w'=>e=.returned (pastV now (touchT last t now near k))/\Fr NoF w w':=by
 unfold touchT;by_cases h:¬last=0/\now-last<=near
 .rw[if_pos h]
  exact touched_near last t now near k h.1 h.2 hb
 .rw[if_neg h]
  exact touched_far last t now near k (by omega) hk hb ht
theorem touchT_ok(last:Int)(t:Nat->Int)(now near:Int)(k:Nat)(hb:0<=last/\last<=now)(ht:∀j,0<=t j/\t j<=last/\t j<=t 0):∀j,0<=touchT last t now near k j/\touchT last t now near k j<=now/\touchT last t now near k j<=touchT last t now near k 0:=by
 intro j;unfold touchT;by_cases h:¬last=0/\now-last<=near
 .rw[if_pos h]
  have:=ht j;omega
 .rw[if_neg h,upd_same]
  by_cases e:j=0
  .subst e;rw[upd_same];omega
  .rw[upd_other _ _ e]
   unfold timesF;have h1:=ht j;have h2:=ht (j-1);have h0:=ht 0
   split
   .split<;>omega
   .omega
def touS(S:LK)(pg:Nat):LK:=
 {S with T:=S.T+1,P:=updOK S.P pg (some (((S.T+1:Nat):Int),touchT (pastOf S pg).1 (pastOf S pg).2 ((S.T+1:Nat):Int) S.near S.k))}
def rerS(S:LK)(at':Nat):LK:=
 if(S.R at').isSome then{S with R:=updKK S.R at' (some (rankOf S (S.fr at').2)),Fa:=updB1 S.Fa at' false}else S
def comS(S:LK)(at' page:Nat):LK:=
 if(S.fr at').1 then S else{S with fr:=updF S.fr at' (true,page),Old:=woO S.Old page}
def accS(S:LK)(at' page:Nat):LK:=rerS (touS (comS S at' page) ((comS S at' page).fr at').2) at'
section
variable{w w':World}{lb fb mb q1 q2 q3 q4 ne:Nat}{S:LK}{FC F4:Nat->Prop}
theorem LM.touch(h:LM w lb S fb mb q1 q2 q3 q4 ne FC F4){w1 w2:World}{g1:Int}(hg1:g1=((S.T+1:Nat):Int))(h1:LM w1 lb {S with T:=S.T+1} fb mb q1 q2 q3 q4 ne FC F4){pg:Nat}
  (hm:MpV prog 32 .u32 zeroPast w2 mb (if(psM S.P (pg:Int)).isSome then ne else ne+1) (updV (psM S.P) (pg:Int) (some (pastV g1 (touchT (pastOf S pg).1 (pastOf S pg).2 g1 S.near S.k)))))(f:Fr (λi=>i=mb) w1 w2):
  ∃ne',LM w2 lb (touS S pg) fb mb q1 q2 q3 q4 ne' FC F4:=by
 subst hg1;have e:=psM_upd S.P pg (some (((S.T+1:Nat):Int),touchT (pastOf S pg).1 (pastOf S pg).2 ((S.T+1:Nat):Int) S.near S.k));simp only[Option.map_some]at e;rw[e]at hm;have hp:=h.pastok pg;refine⟨_,h1.newMap hm f (by have:=h.ne;show _<=S.T+1;split<;>omega) (λz p q=>?_)⟩;by_cases e:z=pg
 .subst e
  rw[updO_sameK]at q
  injection q with q
  subst q;exact⟨by show(0:Int)<=((S.T+1:Nat):Int);omega,Int.le_refl _,touchT_ok _ _ _ _ _ ⟨hp.1,by omega⟩ hp.2.2⟩
 .rw[updO_otherK _ _ e]at q
  exact h1.ok.past z p q
theorem access_full(h:LM w lb S fb mb q1 q2 q3 q4 ne FC F4){at' page:Nat}(ha:at'<S.n)(hp:okN page)(hT:S.T<900000)(hfu:(S.fr at').1=true):Calls prog 144 #[.pointer (some ⟨lb,0,none⟩),.int .i64 at',.int .u32 page] w λe w'=>e=.returned (.tuple #[])/\∃ne' FC' F4',LM w' lb (accS S at' page) fb mb q1 q2 q3 q4 ne' FC' F4'/\Fr (LFK lb fb mb FC F4) w w'/\(∀i,FC' i->FC i\/w.heap.size<=i)/\∀i,F4' i->F4 i\/w.heap.size<=i:=by
 have HA:Hid (at'<S.n):=ha;have HI:=Hd (isFrame_calls h ha);have c4:w.cell? ⟨lb,4,none⟩=some (.slice (some ⟨fb,0,none⟩) S.n S.n):=h.ce 4 (by omega);have lt:=h.blk.lt;have lf:=h.frs.lt;have hfc:w.cell? ⟨fb,at'*2,none⟩=some (.bool true):=by rw[<-hfu];exact h.full ha
 have ha1:(at':Int)<S.n:=by omega
 have ha0:0<=(at':Int):=by omega
 have HFU:=Hd hfu;have H0:=Hd h;have HTT:=Hd hT;clear h hfu hT ha hp;go_enter func144,ntmps144
 go_wp2_with fail
 refine HI.out.mono ?_;rintro e w1⟨rfl,rfl⟩
 go_upto_region 5 with fail
 clear c4 hfc HI lt lf ha1 ha0;have hB:=H0.out;have hTB:=HTT.out;have HFRB:Hid (Fr (LFK lb fb mb FC F4) w w):=Fr.refl _ _;have HGB:Hid (∀i,F4 i->F4 i\/w.heap.size<=i):=λi q=>.inl q
 have eAcc:Hid (accS S at' page=rerS (touS S (S.fr at').2) at'):=by unfold accS comS;rw[if_pos HFU.out];rfl
 obtain⟨g1,hg1⟩:∃g1:Int,g1=((S.T+1:Nat):Int):=⟨_,rfl⟩;have hw:IntKind.i64.wrap ((S.T:Int)+1)=g1:=by rw[show((S.T:Int)+1)=((S.T+1:Nat):Int)from by omega,hg1];exact IntWalk.i64_in _ (by omega)
 obtain⟨h1,f1⟩:=hB.tick (z:=g1) hg1;have HB:=Hd hB;have H1:=Hd h1;have HF1:=Hd f1;have HG1:=Hd hg1;have c3:w.cell? ⟨lb,3,none⟩=some (.int .i64 S.T):=hB.ce 3 (by omega);have lt:=hB.blk.lt;have fz:=hB.blk.frozen 3;have HTB:=Hd hTB;clear hB h1 f1 hg1 hTB
 go_upto_region 6 with fail
 generalize w.setCell ⟨lb,3,none⟩ (.int .i64 g1)=wC at*;clear c3 lt fz hw;obtain⟨PG,hPG⟩:∃PG,PG=(S.fr at').2:=⟨_,rfl⟩;have HPG:=Hd hPG;have c0:wC.cell? ⟨lb,0,none⟩=some (.int .i64 S.k):=H1.out.ce 0 (by omega);have c1:wC.cell? ⟨lb,1,none⟩=some (.int .i64 S.near):=H1.out.ce 1 (by omega);have c3:wC.cell? ⟨lb,3,none⟩=some (.int .i64 g1):=by rw[HG1.out];exact H1.out.ce 3 (by omega)
 have c5:wC.cell? ⟨lb,5,none⟩=some (.map (some mb)):=H1.out.ce 5 (by omega);have pgc:wC.cell? ⟨fb,at'*2+1,none⟩=some (.int .u32 (PG:Nat)):=by rw[hPG];exact H1.out.page HA.out
 have lt:=H1.out.blk.lt;have lf:=H1.out.frs.lt;have hpk:okN PG:=by rw[hPG];exact HB.out.ok.fr at'
 have HD:=Hd (H1.out.fr0 ((Fr.refl NoF wC).drew));have hwf:=okN_wf hpk;have hlk:(Instr.lookup 121 (.map (some mb)) (.int .u32 (PG:Nat)) false).run prog wC.drew=.ok (pastV (pastOf S PG).1 (pastOf S PG).2) wC.drew:=HD.out.look hpk;have hpo:=HB.out.pastok PG;have HT:Hid (∀W,Fr NoF wC W->Calls prog 153 #[pastV (pastOf S PG).1 (pastOf S PG).2,.int .i64 g1,.int .i64 S.near,.int .i64 S.k] W λe w'=>e=.returned (pastV g1 (touchT (pastOf S PG).1 (pastOf S PG).2 g1 S.near S.k))/\Fr NoF wC w'):=λW fW=>(touched_any _ _ _ _ _ HB.out.ok.k1 ⟨hpo.1,by rw[HG1.out];omega,by rw[HG1.out];have:=HTB.out;omega⟩ hpo.2.2).mono λe w' ⟨he,hf⟩=>⟨he,fW.trans hf (λ_ q=>q.elim)⟩
 clear hpo hPG;have HPK:=Hd hpk;clear hpk;generalize hpv:pastV (pastOf S PG).1 (pastOf S PG).2=pv at*;have HPV:=Hd hpv;clear hpv;have HTV:Hid (pastV g1 (touchT (pastOf S PG).1 (pastOf S PG).2 g1 S.near S.k)=pastV g1 (touchT (pastOf S PG).1 (pastOf S PG).2 g1 S.near S.k)):=rfl;generalize htv:pastV g1 (touchT (pastOf S PG).1 (pastOf S PG).2 g1 S.near S.k)=tv at HT;have HTV2:=Hd htv;clear htv HTV
 have HC:Hid (∀W,Fr (λi=>i=mb) wC W->W.cell? ⟨lb,0,none⟩=some (.int .i64 S.k)/\W.cell? ⟨lb,1,none⟩=some (.int .i64 S.near)/\W.cell? ⟨lb,3,none⟩=some (.int .i64 g1)/\W.cell? ⟨lb,5,none⟩=some (.map (some mb))/\W.cell? ⟨fb,at'*2+1,none⟩=some (.int .u32 (PG:Nat))):=λW f=>
  ⟨(f.cell (p:=⟨lb,0,none⟩) H1.out.blk.lt (λq=>H1.out.d2 q.symm)).trans c0,(f.cell (p:=⟨lb,1,none⟩) H1.out.blk.lt (λq=>H1.out.d2 q.symm)).trans c1,(f.cell (p:=⟨lb,3,none⟩) H1.out.blk.lt (λq=>H1.out.d2 q.symm)).trans c3,(f.cell (p:=⟨lb,5,none⟩) H1.out.blk.lt (λq=>H1.out.d2 q.symm)).trans c5,(f.cell (p:=⟨fb,at'*2+1,none⟩) H1.out.frs.lt (λq=>H1.out.d3 q.symm)).trans pgc⟩
 have hmx:ne<1000000:=by have:=HB.out.ne;have:=HTB.out;omega
 have HMX:=Hd hmx;clear hmx
 go_region_held3(λw'=>w'.cell? ⟨lb,0,none⟩=some (.int .i64 S.k)/\w'.cell? ⟨lb,1,none⟩=some (.int .i64 S.near)/\w'.cell? ⟨lb,3,none⟩=some (.int .i64 g1)/\w'.cell? ⟨lb,5,none⟩=some (.map (some mb))/\w'.cell? ⟨fb,at'*2+1,none⟩=some (.int .u32 (PG:Nat)))
  (exact HC.out _ (by repeat(first|exact FM.out|exact FT.out.none|exact Fr.refl _ _|apply Fr.drew)))
  (first
  |(go_at_call 153;(with_reducible refine(HT.out _ (by repeat(first|exact Fr.refl NoF _|apply Fr.drew))).mono ?_);rintro e wT⟨rfl,fT⟩;obtain⟨wM,hrun,m1,m2⟩:=(H1.out.fr0 fT).mp.put_run MVp HMX.out hwf tv;have KM:=Hd m1;have KF:=Hd m2;have FT:=Hd fT;have FM:Hid (Fr (λi=>i=mb) wC wM):=fT.none.trans m2 (λ_ q=>.inl q);clear fT m1 m2))
 go_wp2_with fail
 obtain⟨ne2,h2⟩:=HB.out.touch HG1.out (H1.out.fr0 FT.out) (pg:=PG) (by rw[HTV2.out];exact KM.out) KF.out;have hfM:Fr (LFK lb fb mb FC F4) w wM:=(HFRB.out.trans HF1.out (λi q=>.inl (.inl q))).trans FM.out (λi q=>.inl (.inr (.inr (.inl q))));obtain⟨S2,hS2⟩:∃S2,S2=touS S PG:=⟨_,rfl⟩;have e1:S2.fr=S.fr:=by rw[hS2];rfl
 have e2:S2.n=S.n:=by rw[hS2];rfl
 have e3:S2.T<1000000:=by rw[hS2];show S.T+1<1000000;have:=HTB.out;omega
 have ha2:at'<S2.n:=by rw[e2];exact HA.out
 have hEA:accS S at' page=rerS S2 at':=by rw[eAcc.out,hS2,HPG.out]
 rw[<-hS2]at h2;have hpg2:(S2.fr at').2=PG:=by rw[e1];exact HPG.out.symm
 have HEA:=Hd hEA;have H2:=Hd h2;have HFM:=Hd hfM;have HE3:=Hd e3;have HA2:=Hd ha2;have HPG2:=Hd hpg2;have hat:okN at':=by have:=h2.ok.n1;unfold okN;omega
 have HAT:=Hd hat;have HH:=Hd (cc_has h2.cc hat);clear c0 c1 c3 c5 pgc lt lf hlk hwf hrun HT HC KM KF FT FM HB H1 HTV2 HPV HFRB hS2 e1 e2 e3 ha2 hEA h2 hpg2 hat hfM HG1 HTB HF1 HPG eAcc;refine HH.out.mono ?_;rintro e wN⟨rfl,fN⟩;have h3:=H2.out.fr0 fN;have H3:=Hd h3;have HFN:Hid (Fr (LFK lb fb mb FC F4) w wN):=HFM.out.trans fN (λ_ q=>q.elim);have pgc:wN.cell? ⟨fb,at'*2+1,none⟩=some (.int .u32 (PG:Nat)):=by rw[<-HPG2.out];exact h3.page HA2.out
 have lt:=h3.blk.lt;have lf:=h3.frs.lt;clear h3 fN HH
 cases hR:(S2.R at').isSome with
 |false=>
  have HR:=Hd hR;clear hR;go_wp2;go_returns;rw[HEA.out];unfold rerS;rw[if_neg (by rw[HR.out];simp)];exact⟨rfl,ne2,FC,F4,H3.out,HFN.out,λi q=>.inl q,HGB.out⟩
 |true=>
  have HR:=Hd hR;clear hR;have hrk:=H3.out.pastok PG
  have hk8:0<=(rankOf S2 PG).1/\(rankOf S2 PG).1<=S2.T/\0<=(rankOf S2 PG).2/\(rankOf S2 PG).2<=S2.T:=by
   have:=hrk.2.2 (S2.k-1);unfold rankOf;simp only;omega
  have HRK:=Hd hk8;have HCR:Hid (∀W,Fr NoF wN W->Calls prog 156 #[.pointer (some ⟨lb,0,none⟩),.int .u32 PG] W λe w'=>e=.returned (.agg #[.int .i64 (rankOf S2 PG).1,.int .i64 (rankOf S2 PG).2])/\Fr NoF wN w'):=λW f=>(rank_calls (H3.out.fr0 f) HPK.out).mono λe w' ⟨he,hf⟩=>⟨he,f.trans hf (λ_ q=>q.elim)⟩
  clear hrk hk8;generalize hr1:(rankOf S2 PG).1=r1 at*;generalize hr2:(rankOf S2 PG).2=r2 at*;have HR1:=Hd hr1;have HR2:=Hd hr2;clear hr1 hr2;have HC2:Hid (∀W,Fr NoF wN W->W.cell? ⟨fb,at'*2+1,none⟩=some (.int .u32 (PG:Nat))):=λW f=>by rw[<-HPG2.out];exact(H3.out.fr0 f).page HA2.out
  have HP:Hid (∀W,Fr NoF wN W->Calls prog 155 #[.pointer (some ⟨lb,6,none⟩),.int .i64 at',.agg #[.int .i64 r1,.int .i64 r2]] W λe w'=>e=.returned (.tuple #[])/\∃FC',LM w' lb {S2 with R:=updKK S2.R at' (some (r1,r2)),Fa:=updB1 S2.Fa at' false,t:=S2.t} fb mb q1 q2 q3 q4 ne2 FC' F4/\Fr FC wN w'/\(∀i,FC' i->FC i\/wN.heap.size<=i)/\w'.cell? ⟨fb,at'*2+1,none⟩=some (.int .u32 (PG:Nat))):=λW f=>by
   have h5:=H3.out.fr0 f;refine(cc_put h5.cc HAT.out (a:=r1) (b:=r2) (i64_in (by have:=HRK.out;have:=HE3.out;omega)) (i64_in (by have:=HRK.out;have:=HE3.out;omega)) (by have:=h5.ok.tle;have:=h5.ok.n1;omega)).mono ?_;rintro e wP⟨he,FC',hc,fP,hFC⟩;rw[HR.out]at hc;have h6:=h5.newCC hc fP hFC (by show moreN S2.t true=cntR (updKK S2.R at' (some (r1,r2))) S2.n;rw[cntR_put _ _ HA2.out,HR.out,<-H3.out.ok.tn]);exact⟨he,FC',h6,f.none.trans fP (λi q=>.inl q),λi q=>(hFC i q).elim .inl (λz=>.inr (Nat.le_trans f.size z)),by rw[<-HPG2.out];exact h6.page HA2.out⟩
  go_wp2_with fail
  go_region_held3(λw'=>w'.cell? ⟨fb,at'*2+1,none⟩=some (.int .u32 (PG:Nat)))
   (first|exact HPP.out|exact HC2.out _ (by repeat(first|exact FR.out|exact Fr.refl NoF _|apply Fr.drew)))
   (first
   |(go_at_call 156;(with_reducible refine(HCR.out _ (by repeat(first|exact Fr.refl NoF _|apply Fr.drew))).mono ?_);rintro e wR⟨rfl,fR⟩;have FR:=Hd fR;clear fR)
   |(go_at_call 155;(with_reducible refine(HP.out _ (by repeat(first|exact FR.out|apply Fr.drew))).mono ?_);rintro e wP⟨rfl,FC',h6,fP,hFC,hpp⟩;have HPP:=Hd hpp;have H6:=Hd h6;have FP:=Hd fP;have HFC:=Hd hFC;clear h6 fP hFC hpp))
  go_wp2;go_returns;rw[HEA.out];unfold rerS;rw[if_pos HR.out,HPG2.out]
  exact⟨rfl,ne2,FC',F4,by
   have:=H6.out;rw[<-HR1.out,<-HR2.out]at this;exact this,HFN.out.trans FP.out (λi q=>.inl (.inr (.inr (.inr (.inl q))))),λi q=>(HFC.out i q).elim .inl (λz=>.inr (Nat.le_trans HFN.out.size z)),HGB.out⟩
end
section
variable{w w':World}{lb fb mb q1 q2 q3 q4 ne:Nat}{S:LK}{FC F4:Nat->Prop}
theorem access_newK(h:LM w lb S fb mb q1 q2 q3 q4 ne FC F4){at' page:Nat}(ha:at'<S.n)(hp:okN page)(hT:S.T<900000)(hfu:(S.fr at').1=false):Calls prog 144 #[.pointer (some ⟨lb,0,none⟩),.int .i64 at',.int .u32 page] w λe w'=>e=.returned (.tuple #[])/\∃ne' FC' F4',LM w' lb (accS S at' page) fb mb q1 q2 q3 q4 ne' FC' F4'/\Fr (LFK lb fb mb FC F4) w w'/\(∀i,FC' i->FC i\/w.heap.size<=i)/\∀i,F4' i->F4 i\/w.heap.size<=i:=by
 have HI:=Hd (isFrame_calls h ha);have c4:w.cell? ⟨lb,4,none⟩=some (.slice (some ⟨fb,0,none⟩) S.n S.n):=h.ce 4 (by omega);have lt:=h.blk.lt;have lf:=h.frs.lt;have fz0:=h.frs.frozen (at'*2);have fz1:=h.frs.frozen (at'*2+1);have hfc:w.cell? ⟨fb,at'*2,none⟩=some (.bool false):=by rw[<-hfu];exact h.full ha
 have hpc:w.cell? ⟨fb,at'*2+1,none⟩=some (.int .u32 ((S.fr at').2:Nat)):=h.page ha;have ha1:(at':Int)<S.n:=by omega
 have ha0:0<=(at':Int):=by omega
 have hcv:IntKind.i64.wrap (page:Int)=(page:Int):=IntWalk.i64_in _ (by unfold okN at hp;omega);have fX:Fr (λi=>i=fb) w ((w.setCell ⟨fb,at'*2,none⟩ (.bool true)).setCell ⟨fb,at'*2+1,none⟩ (.int .u32 page)):=((Fr.refl (λi=>i=fb) w).setCell (p:=⟨fb,at'*2,none⟩) (.inl rfl) _).setCell (p:=⟨fb,at'*2+1,none⟩) (.inl rfl) _;have hbX:=(h.frs.set (at'*2) (.bool true)).set (at'*2+1) (.int .u32 page);rw[frC_both]at hbX
 have hX:=h.newFr hbX fX (λi=>by
  unfold updF
  split
  .exact hp
  .exact h.ok.fr i)
 have HX:=Hd hX;have HFX:=Hd fX;have HFU:=Hd hfu;have H0:=Hd h;have HTT:=Hd hT;have HAA:Hid (at'<S.n):=ha;have HPP0:=Hd hp;clear h hfu hT ha hp hX fX hbX;generalize hop:(S.fr at').2=op at hpc;clear hop;go_enter func144,ntmps144
 go_wp2_with fail
 refine HI.out.mono ?_;rintro e w1⟨rfl,rfl⟩
 go_upto_region 4 with fail
 generalize(w.setCell ⟨fb,at'*2,none⟩ (.bool true)).setCell ⟨fb,at'*2+1,none⟩ (.int .u32 page)=wX at*;clear c4 hfc hpc HI lt lf ha1 ha0 fz0 fz1;have HD:=Hd (qk_drop HX.out.qk HPP0.out);have c9:wX.cell? ⟨lb,9,none⟩=some (.pointer (some ⟨q4,0,none⟩)):=HX.out.ce 9 (by omega);have lt:=HX.out.blk.lt
 go_wp2_with fail
 refine HD.out.mono ?_;rintro e wB⟨rfl,hq,fq⟩;have hord:=HX.out.ok.ord;have e1:=oldK_wo S.Old page;have e2:=woO_len hord page;have hq':QK wB q4 (oldK (woO S.Old page)) (woO S.Old page).length F4:=by rw[e1,e2];exact hq
 have hB0:=HX.out.newQ hq' fq (λi q=>.inl q) (λp q=>HX.out.ok.old p (woO_mem q).1) (by
  have:=HX.out.ok.oldn;have h3:(woO S.Old page).length<=S.Old.length:=List.length_filter_le _ _;exact Nat.le_trans h3 this) (woO_ord hord page)
 have HFRB:Hid (Fr (LFK lb fb mb FC F4) w wB):=(HFX.out.mono (λi q=>.inr (.inl q))).trans fq (λi q=>.inl (.inr (.inr (.inr (.inr q)))));have HGB:Hid (∀i,F4 i->F4 i\/w.heap.size<=i):=λi q=>.inl q
 obtain⟨SB,hSB⟩:∃SB:LK,SB={S with fr:=updF S.fr at' (true,page),Old:=woO S.Old page}:=⟨_,rfl⟩
 have eAcc:Hid (accS S at' page=rerS (touS SB (SB.fr at').2) at'):=by
  rw[hSB];unfold accS comS;rw[if_neg (by rw[HFU.out];simp)];rfl
 have hB:LM wB lb SB fb mb q1 q2 q3 q4 ne FC F4:=by rw[hSB];exact hB0
 have HA:Hid (at'<SB.n):=by rw[hSB];exact HAA.out
 have hTB:SB.T<900000:=by rw[hSB];exact HTT.out
 clear hB0 hq hq' e1 e2 hord fq HD c9 lt hSB H0 HX HFX;generalize(oldK S.Old page).isSome=ob at*;obtain⟨g1,hg1⟩:∃g1:Int,g1=((SB.T+1:Nat):Int):=⟨_,rfl⟩;have hw:IntKind.i64.wrap ((SB.T:Int)+1)=g1:=by rw[show((SB.T:Int)+1)=((SB.T+1:Nat):Int)from by omega,hg1];exact IntWalk.i64_in _ (by omega)
 obtain⟨h1,f1⟩:=hB.tick (z:=g1) hg1;have HB:=Hd hB;have H1:=Hd h1;have HF1:=Hd f1;have HG1:=Hd hg1;have c3:wB.cell? ⟨lb,3,none⟩=some (.int .i64 SB.T):=hB.ce 3 (by omega);have lt:=hB.blk.lt;have fz:=hB.blk.frozen 3;have HTB:=Hd hTB;clear hB h1 f1 hg1 hTB
 go_upto_region 6 with fail
 generalize wB.setCell ⟨lb,3,none⟩ (.int .i64 g1)=wC at*;clear c3 lt fz hw;obtain⟨PG,hPG⟩:∃PG,PG=(SB.fr at').2:=⟨_,rfl⟩;have HPG:=Hd hPG;have c0:wC.cell? ⟨lb,0,none⟩=some (.int .i64 SB.k):=H1.out.ce 0 (by omega);have c1:wC.cell? ⟨lb,1,none⟩=some (.int .i64 SB.near):=H1.out.ce 1 (by omega);have c3:wC.cell? ⟨lb,3,none⟩=some (.int .i64 g1):=by rw[HG1.out];exact H1.out.ce 3 (by omega)
 have c5:wC.cell? ⟨lb,5,none⟩=some (.map (some mb)):=H1.out.ce 5 (by omega);have pgc:wC.cell? ⟨fb,at'*2+1,none⟩=some (.int .u32 (PG:Nat)):=by rw[hPG];exact H1.out.page HA.out
 have lt:=H1.out.blk.lt;have lf:=H1.out.frs.lt;have hpk:okN PG:=by rw[hPG];exact HB.out.ok.fr at'
 have HD:=Hd (H1.out.fr0 ((Fr.refl NoF wC).drew));have hwf:=okN_wf hpk;have hlk:(Instr.lookup 121 (.map (some mb)) (.int .u32 (PG:Nat)) false).run prog wC.drew=.ok (pastV (pastOf SB PG).1 (pastOf SB PG).2) wC.drew:=HD.out.look hpk;have hpo:=HB.out.pastok PG;have HT:Hid (∀W,Fr NoF wC W->Calls prog 153 #[pastV (pastOf SB PG).1 (pastOf SB PG).2,.int .i64 g1,.int .i64 SB.near,.int .i64 SB.k] W λe w'=>e=.returned (pastV g1 (touchT (pastOf SB PG).1 (pastOf SB PG).2 g1 SB.near SB.k))/\Fr NoF wC w'):=λW fW=>(touched_any _ _ _ _ _ HB.out.ok.k1 ⟨hpo.1,by rw[HG1.out];omega,by rw[HG1.out];have:=HTB.out;omega⟩ hpo.2.2).mono λe w' ⟨he,hf⟩=>⟨he,fW.trans hf (λ_ q=>q.elim)⟩
 clear hpo hPG;have HPK:=Hd hpk;clear hpk;generalize hpv:pastV (pastOf SB PG).1 (pastOf SB PG).2=pv at*;have HPV:=Hd hpv;clear hpv;have HTV:Hid (pastV g1 (touchT (pastOf SB PG).1 (pastOf SB PG).2 g1 SB.near SB.k)=pastV g1 (touchT (pastOf SB PG).1 (pastOf SB PG).2 g1 SB.near SB.k)):=rfl;generalize htv:pastV g1 (touchT (pastOf SB PG).1 (pastOf SB PG).2 g1 SB.near SB.k)=tv at HT;have HTV2:=Hd htv;clear htv HTV
 have HC:Hid (∀W,Fr (λi=>i=mb) wC W->W.cell? ⟨lb,0,none⟩=some (.int .i64 SB.k)/\W.cell? ⟨lb,1,none⟩=some (.int .i64 SB.near)/\W.cell? ⟨lb,3,none⟩=some (.int .i64 g1)/\W.cell? ⟨lb,5,none⟩=some (.map (some mb))/\W.cell? ⟨fb,at'*2+1,none⟩=some (.int .u32 (PG:Nat))):=λW f=>
  ⟨(f.cell (p:=⟨lb,0,none⟩) H1.out.blk.lt (λq=>H1.out.d2 q.symm)).trans c0,(f.cell (p:=⟨lb,1,none⟩) H1.out.blk.lt (λq=>H1.out.d2 q.symm)).trans c1,(f.cell (p:=⟨lb,3,none⟩) H1.out.blk.lt (λq=>H1.out.d2 q.symm)).trans c3,(f.cell (p:=⟨lb,5,none⟩) H1.out.blk.lt (λq=>H1.out.d2 q.symm)).trans c5,(f.cell (p:=⟨fb,at'*2+1,none⟩) H1.out.frs.lt (λq=>H1.out.d3 q.symm)).trans pgc⟩
 have hmx:ne<1000000:=by have:=HB.out.ne;have:=HTB.out;omega
 have HMX:=Hd hmx;clear hmx
 go_region_held3(λw'=>w'.cell? ⟨lb,0,none⟩=some (.int .i64 SB.k)/\w'.cell? ⟨lb,1,none⟩=some (.int .i64 SB.near)/\w'.cell? ⟨lb,3,none⟩=some (.int .i64 g1)/\w'.cell? ⟨lb,5,none⟩=some (.map (some mb))/\w'.cell? ⟨fb,at'*2+1,none⟩=some (.int .u32 (PG:Nat)))
  (exact HC.out _ (by repeat(first|exact FM.out|exact FT.out.none|exact Fr.refl _ _|apply Fr.drew)))
  (first
  |(go_at_call 153;(with_reducible refine(HT.out _ (by repeat(first|exact Fr.refl NoF _|apply Fr.drew))).mono ?_);rintro e wT⟨rfl,fT⟩;obtain⟨wM,hrun,m1,m2⟩:=(H1.out.fr0 fT).mp.put_run MVp HMX.out hwf tv;have KM:=Hd m1;have KF:=Hd m2;have FT:=Hd fT;have FM:Hid (Fr (λi=>i=mb) wC wM):=fT.none.trans m2 (λ_ q=>.inl q);clear fT m1 m2))
 go_wp2_with fail
 obtain⟨ne2,h2⟩:=HB.out.touch HG1.out (H1.out.fr0 FT.out) (pg:=PG) (by rw[HTV2.out];exact KM.out) KF.out;have hfM:Fr (LFK lb fb mb FC F4) w wM:=(HFRB.out.trans HF1.out (λi q=>.inl (.inl q))).trans FM.out (λi q=>.inl (.inr (.inr (.inl q))));obtain⟨S2,hS2⟩:∃S2,S2=touS SB PG:=⟨_,rfl⟩;have e1:S2.fr=SB.fr:=by rw[hS2];rfl
 have e2:S2.n=SB.n:=by rw[hS2];rfl
 have e3:S2.T<1000000:=by rw[hS2];show SB.T+1<1000000;have:=HTB.out;omega
 have ha2:at'<S2.n:=by rw[e2];exact HA.out
 have hEA:accS S at' page=rerS S2 at':=by rw[eAcc.out,hS2,HPG.out]
 rw[<-hS2]at h2;have hpg2:(S2.fr at').2=PG:=by rw[e1];exact HPG.out.symm
 have HEA:=Hd hEA;have H2:=Hd h2;have HFM:=Hd hfM;have HE3:=Hd e3;have HA2:=Hd ha2;have HPG2:=Hd hpg2;have hat:okN at':=by have:=h2.ok.n1;unfold okN;omega
 have HAT:=Hd hat;have HH:=Hd (cc_has h2.cc hat);clear c0 c1 c3 c5 pgc lt lf hlk hwf hrun HT HC KM KF FT FM HB H1 HTV2 HPV HFRB hS2 e1 e2 e3 ha2 hEA h2 hpg2 hat hfM HG1 HTB HF1 HPG eAcc;refine HH.out.mono ?_;rintro e wN⟨rfl,fN⟩;have h3:=H2.out.fr0 fN;have H3:=Hd h3;have HFN:Hid (Fr (LFK lb fb mb FC F4) w wN):=HFM.out.trans fN (λ_ q=>q.elim);have pgc:wN.cell? ⟨fb,at'*2+1,none⟩=some (.int .u32 (PG:Nat)):=by rw[<-HPG2.out];exact h3.page HA2.out
 have lt:=h3.blk.lt;have lf:=h3.frs.lt;clear h3 fN HH
 cases hR:(S2.R at').isSome with
 |false=>
  have HR:=Hd hR;clear hR;go_wp2;go_returns;rw[HEA.out];unfold rerS;rw[if_neg (by rw[HR.out];simp)];exact⟨rfl,ne2,FC,F4,H3.out,HFN.out,λi q=>.inl q,HGB.out⟩
 |true=>
  have HR:=Hd hR;clear hR;have hrk:=H3.out.pastok PG
  have hk8:0<=(rankOf S2 PG).1/\(rankOf S2 PG).1<=S2.T/\0<=(rankOf S2 PG).2/\(rankOf S2 PG).2<=S2.T:=by
   have:=hrk.2.2 (S2.k-1);unfold rankOf;simp only;omega
  have HRK:=Hd hk8;have HCR:Hid (∀W,Fr NoF wN W->Calls prog 156 #[.pointer (some ⟨lb,0,none⟩),.int .u32 PG] W λe w'=>e=.returned (.agg #[.int .i64 (rankOf S2 PG).1,.int .i64 (rankOf S2 PG).2])/\Fr NoF wN w'):=λW f=>(rank_calls (H3.out.fr0 f) HPK.out).mono λe w' ⟨he,hf⟩=>⟨he,f.trans hf (λ_ q=>q.elim)⟩
  clear hrk hk8;generalize hr1:(rankOf S2 PG).1=r1 at*;generalize hr2:(rankOf S2 PG).2=r2 at*;have HR1:=Hd hr1;have HR2:=Hd hr2;clear hr1 hr2;have HC2:Hid (∀W,Fr NoF wN W->W.cell? ⟨fb,at'*2+1,none⟩=some (.int .u32 (PG:Nat))):=λW f=>by rw[<-HPG2.out];exact(H3.out.fr0 f).page HA2.out
  have HP:Hid (∀W,Fr NoF wN W->Calls prog 155 #[.pointer (some ⟨lb,6,none⟩),.int .i64 at',.agg #[.int .i64 r1,.int .i64 r2]] W λe w'=>e=.returned (.tuple #[])/\∃FC',LM w' lb {S2 with R:=updKK S2.R at' (some (r1,r2)),Fa:=updB1 S2.Fa at' false,t:=S2.t} fb mb q1 q2 q3 q4 ne2 FC' F4/\Fr FC wN w'/\(∀i,FC' i->FC i\/wN.heap.size<=i)/\w'.cell? ⟨fb,at'*2+1,none⟩=some (.int .u32 (PG:Nat))):=λW f=>by
   have h5:=H3.out.fr0 f;refine(cc_put h5.cc HAT.out (a:=r1) (b:=r2) (i64_in (by have:=HRK.out;have:=HE3.out;omega)) (i64_in (by have:=HRK.out;have:=HE3.out;omega)) (by have:=h5.ok.tle;have:=h5.ok.n1;omega)).mono ?_;rintro e wP⟨he,FC',hc,fP,hFC⟩;rw[HR.out]at hc;have h6:=h5.newCC hc fP hFC (by show moreN S2.t true=cntR (updKK S2.R at' (some (r1,r2))) S2.n;rw[cntR_put _ _ HA2.out,HR.out,<-H3.out.ok.tn]);exact⟨he,FC',h6,f.none.trans fP (λi q=>.inl q),λi q=>(hFC i q).elim .inl (λz=>.inr (Nat.le_trans f.size z)),by rw[<-HPG2.out];exact h6.page HA2.out⟩
  go_wp2_with fail
  go_region_held3(λw'=>w'.cell? ⟨fb,at'*2+1,none⟩=some (.int .u32 (PG:Nat)))
   (first|exact HPP.out|exact HC2.out _ (by repeat(first|exact FR.out|exact Fr.refl NoF _|apply Fr.drew)))
   (first
   |(go_at_call 156;(with_reducible refine(HCR.out _ (by repeat(first|exact Fr.refl NoF _|apply Fr.drew))).mono ?_);rintro e wR⟨rfl,fR⟩;have FR:=Hd fR;clear fR)
   |(go_at_call 155;(with_reducible refine(HP.out _ (by repeat(first|exact FR.out|apply Fr.drew))).mono ?_);rintro e wP⟨rfl,FC',h6,fP,hFC,hpp⟩;have HPP:=Hd hpp;have H6:=Hd h6;have FP:=Hd fP;have HFC:=Hd hFC;clear h6 fP hFC hpp))
  go_wp2;go_returns;rw[HEA.out];unfold rerS;rw[if_pos HR.out,HPG2.out]
  exact⟨rfl,ne2,FC',F4,by
   have:=H6.out;rw[<-HR1.out,<-HR2.out]at this;exact this,HFN.out.trans FP.out (λi q=>.inl (.inr (.inr (.inr (.inl q))))),λi q=>(HFC.out i q).elim .inl (λz=>.inr (Nat.le_trans HFN.out.size z)),HGB.out⟩
end
def setS(S:LK)(at':Nat)(on:Bool):LK:=
 if(S.R at').isSome=on then S
 else if on then{S with R:=updKK S.R at' (some (rankOf S (S.fr at').2)),Fa:=updB1 S.Fa at' false,t:=S.t+1}
 else{S with R:=updKK S.R at' none,t:=S.t-1}
def remvS(S:LK)(at':Nat):LK:=
 {S with fr:=updF S.fr at' (false,(S.fr at').2),R:=updKK S.R at' none,t:=lessN S.t (S.R at').isSome,P:=updOK S.P (S.fr at').2 none}
section
variable{w w':World}{lb fb mb q1 q2 q3 q4 ne:Nat}{S:LK}{FC F4:Nat->Prop}
theorem set_callsK(h:LM w lb S fb mb q1 q2 q3 q4 ne FC F4){at':Nat}(ha:at'<S.n)(hfu:(S.fr at').1=true)(hT:S.T<1000000)(on:Bool):Calls prog 148 #[.pointer (some ⟨lb,0,none⟩),.int .i64 at',.bool on] w λe w'=>e=.returned (.tuple #[])/\∃FC',LM w' lb (setS S at' on) fb mb q1 q2 q3 q4 ne FC' F4/\Fr (LFK lb fb mb FC F4) w w'/\(∀i,FC' i->FC i\/w.heap.size<=i):=by
 have hat:okN at':=by have:=h.ok.n1;unfold okN;omega
 have HI:=Hd (has_callsK h ha);rw[hfu]at HI;have HH:=Hd (cc_has h.cc hat);have H0:=Hd h;have HA:Hid (at'<S.n):=ha;have HAT:=Hd hat;have lt:=h.blk.lt;have HT:=Hd hT;have HPK:=Hd (h.ok.fr at');obtain⟨PG,hPG⟩:∃PG,PG=(S.fr at').2:=⟨_,rfl⟩;rw[<-hPG]at HPK;have HPG:=Hd hPG;clear h hat hfu hT ha hPG
 cases hR:(S.R at').isSome with
 |false=>
  have HR:=Hd hR;rw[hR]at HH;clear hR
  cases on with
  |false=>
   have HS:Hid (setS S at' false=S):=by unfold Hid setS;rw[if_pos HR.out]
   go_enter func148,ntmps148
   go_wp2_with fail
   refine HI.out.mono ?_;rintro e w1⟨rfl,rfl⟩
   go_wp2_with fail
   refine HH.out.mono ?_;rintro e w1⟨rfl,f1⟩;have HF1:=Hd f1;clear f1;go_wp2;go_returns;rw[HS.out];exact⟨rfl,FC,H0.out.fr0 HF1.out,HF1.out.none,λi q=>.inl q⟩
  |true=>
   have HS:Hid (setS S at' true={S with R:=updKK S.R at' (some (rankOf S PG)),Fa:=updB1 S.Fa at' false,t:=S.t+1}):=by unfold Hid setS;rw[if_neg (by rw[HR.out];simp),if_pos rfl,HPG.out]
   have ha1:(at':Int)<S.n:=by have:=HA.out;omega
   have ha0:0<=(at':Int):=by omega
   go_enter func148,ntmps148
   go_wp2_with fail
   refine HI.out.mono ?_;rintro e w1⟨rfl,rfl⟩
   go_wp2_with fail
   refine HH.out.mono ?_;rintro e wN⟨rfl,fN⟩;have h3:=H0.out.fr0 fN;have H3:=Hd h3;have HFN:Hid (Fr (LFK lb fb mb FC F4) w wN):=fN.none;have c4:wN.cell? ⟨lb,4,none⟩=some (.slice (some ⟨fb,0,none⟩) S.n S.n):=h3.ce 4 (by omega);have pgc:wN.cell? ⟨fb,at'*2+1,none⟩=some (.int .u32 (PG:Nat)):=by rw[HPG.out];exact h3.page HA.out
   have lt:=h3.blk.lt;have lf:=h3.frs.lt;clear h3 fN HH HI;have hrk:=H3.out.pastok PG
   have hk8:0<=(rankOf S PG).1/\(rankOf S PG).1<=S.T/\0<=(rankOf S PG).2/\(rankOf S PG).2<=S.T:=by
    have:=hrk.2.2 (S.k-1);unfold rankOf;simp only;omega
   have HRK:=Hd hk8;have HCR:Hid (∀W,Fr NoF wN W->Calls prog 156 #[.pointer (some ⟨lb,0,none⟩),.int .u32 PG] W λe w'=>e=.returned (.agg #[.int .i64 (rankOf S PG).1,.int .i64 (rankOf S PG).2])/\Fr NoF wN w'):=λW f=>(rank_calls (H3.out.fr0 f) HPK.out).mono λe w' ⟨he,hf⟩=>⟨he,f.trans hf (λ_ q=>q.elim)⟩
   clear hrk hk8;generalize hr1:(rankOf S PG).1=r1 at*;generalize hr2:(rankOf S PG).2=r2 at*;have HR1:=Hd hr1;have HR2:=Hd hr2;clear hr1 hr2;have HC2:Hid (∀W,Fr NoF wN W->W.cell? ⟨lb,4,none⟩=some (.slice (some ⟨fb,0,none⟩) S.n S.n)/\W.cell? ⟨fb,at'*2+1,none⟩=some (.int .u32 (PG:Nat))):=λW f=>⟨(H3.out.fr0 f).ce 4 (by omega),by rw[HPG.out];exact(H3.out.fr0 f).page HA.out⟩
   have HP:Hid (∀W,Fr NoF wN W->Calls prog 155 #[.pointer (some ⟨lb,6,none⟩),.int .i64 at',.agg #[.int .i64 r1,.int .i64 r2]] W λe w'=>e=.returned (.tuple #[])/\∃FC',LM w' lb {S with R:=updKK S.R at' (some (r1,r2)),Fa:=updB1 S.Fa at' false,t:=S.t+1} fb mb q1 q2 q3 q4 ne FC' F4/\Fr FC wN w'/\(∀i,FC' i->FC i\/wN.heap.size<=i)/\w'.cell? ⟨lb,4,none⟩=some (.slice (some ⟨fb,0,none⟩) S.n S.n)/\w'.cell? ⟨fb,at'*2+1,none⟩=some (.int .u32 (PG:Nat))):=λW f=>by
    have h5:=H3.out.fr0 f;refine(cc_put h5.cc HAT.out (a:=r1) (b:=r2) (i64_in (by have:=HRK.out;have:=HT.out;omega)) (i64_in (by have:=HRK.out;have:=HT.out;omega)) (by have:=h5.ok.tle;have:=h5.ok.n1;omega)).mono ?_;rintro e wP⟨he,FC',hc,fP,hFC⟩;rw[HR.out]at hc;have h6:=h5.newCC hc fP hFC (by rw[cntR_put _ _ HA.out,HR.out,<-H3.out.ok.tn]);exact⟨he,FC',h6,f.none.trans fP (λi q=>.inl q),λi q=>(hFC i q).elim .inl (λz=>.inr (Nat.le_trans f.size z)),h6.ce 4 (by omega),by rw[HPG.out];exact h6.page HA.out⟩
   go_wp2_with fail
   go_region_held3(λw'=>w'.cell? ⟨lb,4,none⟩=some (.slice (some ⟨fb,0,none⟩) S.n S.n)/\w'.cell? ⟨fb,at'*2+1,none⟩=some (.int .u32 (PG:Nat)))
    (first|exact HPP.out|exact HC2.out _ (by repeat(first|exact FR.out|exact Fr.refl NoF _|apply Fr.drew)))
    (first
    |(go_at_call 156;(with_reducible refine(HCR.out _ (by repeat(first|exact Fr.refl NoF _|apply Fr.drew))).mono ?_);rintro e wR⟨rfl,fR⟩;have FR:=Hd fR;clear fR)
    |(go_at_call 155;(with_reducible refine(HP.out _ (by repeat(first|exact FR.out|apply Fr.drew))).mono ?_);rintro e wP⟨rfl,FC',h6,fP,hFC,hpp⟩;have HPP:=Hd hpp;have H6:=Hd h6;have FP:=Hd fP;have HFC:=Hd hFC;clear h6 fP hFC hpp))
   go_wp2;go_returns;rw[HS.out]
   exact⟨rfl,FC',by
    have:=H6.out;rw[<-HR1.out,<-HR2.out]at this;exact this,HFN.out.trans FP.out (λi q=>.inl (.inr (.inr (.inr (.inl q))))),λi q=>(HFC.out i q).elim .inl (λz=>.inr (Nat.le_trans HFN.out.size z))⟩
 |true=>
  have HR:=Hd hR;rw[hR]at HH;clear hR
  cases on with
  |true=>
   have HS:Hid (setS S at' true=S):=by unfold Hid setS;rw[if_pos HR.out]
   go_enter func148,ntmps148
   go_wp2_with fail
   refine HI.out.mono ?_;rintro e w1⟨rfl,rfl⟩
   go_wp2_with fail
   refine HH.out.mono ?_;rintro e w1⟨rfl,f1⟩;have HF1:=Hd f1;clear f1;go_wp2;go_returns;rw[HS.out];exact⟨rfl,FC,H0.out.fr0 HF1.out,HF1.out.none,λi q=>.inl q⟩
  |false=>
   have HS:Hid (setS S at' false={S with R:=updKK S.R at' none,t:=S.t-1}):=by unfold Hid setS;rw[if_neg (by rw[HR.out];simp),if_neg (by simp)]
   go_enter func148,ntmps148
   go_wp2_with fail
   refine HI.out.mono ?_;rintro e w1⟨rfl,rfl⟩
   go_wp2_with fail
   refine HH.out.mono ?_;rintro e wN⟨rfl,fN⟩;have h3:=H0.out.fr0 fN;have HD:=Hd (cc_drop h3.cc HAT.out);have H3:=Hd h3;have HFN:=Hd fN;have lt:=h3.blk.lt;clear h3 fN HH HI
   go_wp2_with fail
   refine HD.out.mono ?_;rintro e w2⟨rfl,hc,f2⟩;rw[HR.out]at hc;have h4:=H3.out.newCC hc f2 (λi q=>.inl q) (by rw[cntR_drop _ HA.out,HR.out,<-H3.out.ok.tn]);have H4:=Hd h4;have HF2:=Hd f2;clear h4 hc f2;go_wp2;go_returns;rw[HS.out];exact⟨rfl,FC,H4.out,HFN.out.none.trans HF2.out (λi q=>.inl (.inr (.inr (.inr (.inl q))))),λi q=>.inl q⟩
theorem access_calls(h:LM w lb S fb mb q1 q2 q3 q4 ne FC F4){at' page:Nat}(ha:at'<S.n)(hp:okN page)(hT:S.T<900000):Calls prog 144 #[.pointer (some ⟨lb,0,none⟩),.int .i64 at',.int .u32 page] w λe w'=>e=.returned (.tuple #[])/\∃ne' FC' F4',LM w' lb (accS S at' page) fb mb q1 q2 q3 q4 ne' FC' F4'/\Fr (LFK lb fb mb FC F4) w w'/\(∀i,FC' i->FC i\/w.heap.size<=i)/\∀i,F4' i->F4 i\/w.heap.size<=i:=by
 cases e:(S.fr at').1 with
 |true=>exact access_full h ha hp hT e
 |false=>exact access_newK h ha hp hT e
end
def vicS(S:LK)(x:Nat)(Fb:Nat->Bool):LK:=
 remS {S with Fa:=Fb,fr:=updF S.fr x (false,(S.fr x).2),R:=updKK S.R x none,t:=S.t-1} (S.fr x).2
theorem LeastC.some{R:Nat->Option (Int×Int)}{Fb:Nat->Bool}{x:Nat}(h:LeastC R Fb x):(R x).isSome=true:=by
 rcases h with⟨a,b,h,_⟩|⟨_,a,b,h,_⟩
 .unfold farK at h
  split at h
  .rw[h];rfl
  .cases h
 .exact(by rw[(fresh_R h).2];rfl)
section
variable{w w':World}{lb fb mb q1 q2 q3 q4 ne:Nat}{S:LK}{FC F4:Nat->Prop}
theorem victim_noK(h:LM w lb S fb mb q1 q2 q3 q4 ne FC F4)(h0:S.t=0)(page:Int):Calls prog 150 #[.pointer (some ⟨lb,0,none⟩),.int .u32 page] w λe w'=>e=.returned (.tuple #[.int .i64 0,.bool false])/\Fr NoF w w':=by
 have HS:=Hd (lsize_calls h);rw[h0]at HS;clear h;go_enter func150,ntmps150
 go_wp2_with fail
 refine HS.out.mono ?_;rintro e w1⟨rfl,f1⟩;go_wp2;go_returns;exact⟨rfl,f1⟩
theorem victim_yesK(h:LM w lb S fb mb q1 q2 q3 q4 ne FC F4)(h0:0<S.t)(page:Int)(hT:S.T<1000000)(hg:S.gone<800000)(hdom:∀x,(S.R x).isSome=true->x<S.n/\oldK S.Old (S.fr x).2=none):Calls prog 150 #[.pointer (some ⟨lb,0,none⟩),.int .u32 page] w λe w'=>∃x:Nat,e=.returned (.tuple #[.int .i64 x,.bool true])/\∃Fb ne' FC' F4',Aged S.R S.Fa Fb ((S.T:Int)-S.near)/\LeastC S.R Fb x/\LM w' lb (vicS S x Fb) fb mb q1 q2 q3 q4 ne' FC' F4'/\Fr (LFK lb fb mb FC F4) w w'/\(∀i,FC' i->FC i\/w.heap.size<=i)/\∀i,F4' i->F4 i\/w.heap.size<=i:=by
 have HS:=Hd (lsize_calls h);have hz:((S.t:Int)==0)=false:=by simp;omega
 have H0:=Hd h;have HDOM:=Hd hdom;have HG:=Hd hg;have HPOS:=Hd h0;have lt:=h.blk.lt;obtain⟨u,hu⟩:∃u:Int,u=(S.T:Int)-S.near:=⟨_,rfl⟩;have hw:IntKind.i64.wrap ((S.T:Int)-S.near)=u:=by rw[hu];exact IntWalk.i64_in _ (by have:=h.ok.near;omega)
 rw[<-hu];have HU:=Hd hu;clear hu;have hz2:(S.t==0)=false:=by simp;omega
 clear h hdom hg h0 hT;go_enter func150,ntmps150
 go_wp2_with fail
 refine HS.out.mono ?_;rintro e wN⟨rfl,fN⟩;have h3:=H0.out.fr0 fN;have H3:=Hd h3;have HFN:Hid (Fr (LFK lb fb mb FC F4) w wN):=fN.none;have c1:wN.cell? ⟨lb,1,none⟩=some (.int .i64 S.near):=h3.ce 1 (by omega);have c3:wN.cell? ⟨lb,3,none⟩=some (.int .i64 S.T):=h3.ce 3 (by omega);have lt:=h3.blk.lt;clear h3 fN HS;have HC2:Hid (∀W,Fr NoF wN W->W.cell? ⟨lb,1,none⟩=some (.int .i64 S.near)/\W.cell? ⟨lb,3,none⟩=some (.int .i64 S.T)):=λW f=>⟨(H3.out.fr0 f).ce 1 (by omega),(H3.out.fr0 f).ce 3 (by omega)⟩
 have HL:Hid (∀W,Fr NoF wN W->Calls prog 160 #[.pointer (some ⟨lb,6,none⟩),.int .i64 u] W λe w'=>∃x:Nat,e=.returned (.tuple #[.int .i64 x,.bool true])/\∃Fb FC',Aged S.R S.Fa Fb u/\LeastC S.R Fb x/\LM w' lb {S with Fa:=Fb} fb mb q1 q2 q3 q4 ne FC' F4/\Fr FC wN w'/\(∀i,FC' i->FC i\/wN.heap.size<=i)/\w'.cell? ⟨lb,1,none⟩=some (.int .i64 S.near)/\w'.cell? ⟨lb,3,none⟩=some (.int .i64 S.T)):=λW f=>by
  have h5:=H3.out.fr0 f;refine(cc_least h5.cc (by have:=h5.ok.tle;have:=h5.ok.n1;omega) HPOS.out u).mono ?_;rintro e wP⟨x,he,Fb,FC',hc,hag,hl,fP,hFC⟩;have h6:=h5.newCC hc fP hFC H3.out.ok.tn;exact⟨x,he,Fb,FC',hag,hl,h6,f.none.trans fP (λi q=>.inl q),λi q=>(hFC i q).elim .inl (λz=>.inr (Nat.le_trans f.size z)),h6.ce 1 (by omega),h6.ce 3 (by omega)⟩
 go_wp2_with fail
 go_region_held3(λw'=>w'.cell? ⟨lb,1,none⟩=some (.int .i64 S.near)/\w'.cell? ⟨lb,3,none⟩=some (.int .i64 S.T))
  (first|exact HPP.out|exact HC2.out _ (by repeat(first|exact Fr.refl NoF _|apply Fr.drew)))
  (first
  |(go_at_call 160;(with_reducible refine(HL.out _ (by repeat(first|exact Fr.refl NoF _|apply Fr.drew))).mono ?_);rintro e wP⟨x,rfl,Fb,FC',hag,hl,h6,fP,hFC,hpp⟩;have HPP:=Hd hpp;have H6:=Hd h6;have FP:=Hd fP;have HFC:=Hd hFC;have HAG:=Hd hag;have HLC:=Hd hl;clear h6 fP hFC hpp hag hl))
 have hsome:=HLC.out.some;obtain⟨hx,hold⟩:=HDOM.out x hsome;have HE:=Hd (empty_callsK H6.out (at':=x) hx);have HXN:=Hd hx;have HOLD:=Hd hold;have HSM:=Hd hsome;have HF6:Hid (Fr (LFK lb fb mb FC F4) w wP):=HFN.out.trans FP.out (λi q=>.inl (.inr (.inr (.inr (.inl q)))));have HFC2:Hid (∀i,FC' i->FC i\/w.heap.size<=i):=λi q=>(HFC.out i q).elim .inl (λz=>.inr (Nat.le_trans HFN.out.size z))
 clear HL HC2 c1 c3 lt hx hold hsome
 go_wp2_with fail
 refine HE.out.mono ?_;rintro e wE⟨rfl,h7,f7⟩;have e7:lessN S.t (S.R x).isSome=S.t-1:=by rw[HSM.out];rfl
 have h8:LM wE lb {S with Fa:=Fb,fr:=updF S.fr x (false,(S.fr x).2),R:=updKK S.R x none,t:=S.t-1} fb mb q1 q2 q3 q4 ne FC' F4:=by rw[<-e7];exact h7
 have H8:=Hd h8;have c4:wE.cell? ⟨lb,4,none⟩=some (.slice (some ⟨fb,0,none⟩) S.n S.n):=h8.ce 4 (by omega)
 have pgc:wE.cell? ⟨fb,x*2+1,none⟩=some (.int .u32 ((S.fr x).2:Nat)):=by
  have:=h8.page (at':=x) HXN.out;rw[show((updF S.fr x (false,(S.fr x).2)) x).2=(S.fr x).2 from by rw[updF_same]]at this;exact this
 have HRM:Hid (Calls prog 161 #[.pointer (some ⟨lb,0,none⟩),.int .u32 ((S.fr x).2:Nat)] wE λe w'=>e=.returned (.tuple #[])/\∃ne' F4',LM w' lb (vicS S x Fb) fb mb q1 q2 q3 q4 ne' FC' F4'/\Fr (LFK lb fb mb FC' F4) wE w'/\∀i,F4' i->F4 i\/wE.heap.size<=i):=remember_calls h8 (H0.out.ok.fr x) HOLD.out HG.out;have lt:=h8.blk.lt;have lf:=h8.frs.lt;have hx1:(x:Int)<S.n:=by have:=HXN.out;omega
 have hx0:0<=(x:Int):=by omega
 have HF8:Hid (Fr (LFK lb fb mb FC F4) w wE):=HF6.out.trans f7 (λi q=>by
  rcases q with q|q
  .exact .inl (.inr (.inl q))
  .exact(HFC2.out i q).elim (λz=>.inl (.inr (.inr (.inr (.inl z))))) .inr)
 clear h8 h7 f7 e7 HE;generalize hpg:(S.fr x).2=PG at pgc HRM;clear hpg
 go_wp2_with fail
 refine HRM.out.mono ?_;rintro e wR⟨rfl,ne',F4',h9,f9,hF4⟩;have H9:=Hd h9;have HF9:=Hd f9;have HF4:=Hd hF4;clear h9 f9 hF4;go_wp2;go_returns;refine⟨x,rfl,Fb,ne',FC',F4',HAG.out,HLC.out,H9.out,HF8.out.trans HF9.out (λi q=>?_),HFC2.out,λi q=>(HF4.out i q).elim .inl (λz=>.inr (Nat.le_trans HF8.out.size z))⟩;rcases q with q|q|q|q|q
 .exact .inl (.inl q)
 .exact .inl (.inr (.inl q))
 .exact .inl (.inr (.inr (.inl q)))
 .exact(HFC2.out i q).elim (λz=>.inl (.inr (.inr (.inr (.inl z))))) .inr
 .exact .inl (.inr (.inr (.inr (.inr q))))
end
end
end Go.Proofs.YtpkbkhffglikhaaGreatDoor
