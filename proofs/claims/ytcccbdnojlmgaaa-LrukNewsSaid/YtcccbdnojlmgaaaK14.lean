/- Part 14. -/
import Derived.Test.YtcccbdnojlmgaaaK13
namespace Go.Proofs.Ytcccbdnojlmgaaa
set_option linter.all false
set_option maxHeartbeats 16000000
set_option maxRecDepth 100000
section
open Go.Maps Go.RowKit
section
variable{w w':World}{lb fb mb q1 q2 q3 q4 ne:Nat}{S:LK}{FC F4:Nat->Prop}
theorem LM.forget(h:LM w lb S fb mb q1 q2 q3 q4 ne FC F4){x:Nat}(hm:MpV Try.prog 35 .u32 zeroPast w' mb (if(psM S.P (x:Int)).isSome then ne-1 else ne) (updV (psM S.P) (x:Int) none))(f:Fr (fun i=>i=mb) w w'):LM w' lb {S with P:=updO S.P x none} fb mb q1 q2 q3 q4 (if(psM S.P (x:Int)).isSome then ne-1 else ne) FC F4:=by
 have e:updV (psM S.P) (x:Int) none=psM (updO S.P x none):=psM_upd S.P x none;rw[e]at hm;refine h.newMap hm f (by have:=h.ne;split<;>omega) (fun z p q=>?_);by_cases e:z=x
 .subst e;rw[updO_same]at q;cases q
 .rw[updO_other _ _ e]at q;exact h.ok.past z p q
theorem remember_calls(h:LM w lb S fb mb q1 q2 q3 q4 ne FC F4){x:Nat}(hx:okN x)(hnew:oldK S.Old x=none)(hg:S.gone<800000):Calls Try.prog 37 #[.pointer (some ⟨lb,0,none⟩),.int .u32 x] w fun e w'=>e=.returned (.tuple #[])∧∃ne' F4',LM w' lb (remS S x) fb mb q1 q2 q3 q4 ne' FC F4'∧Fr (LF lb fb mb FC F4) w w'∧∀i,F4' i->F4 i∨w.heap.size<=i:=by
 obtain⟨g1,hg1⟩:∃g1:Int,g1=((S.gone+1:Nat):Int):=⟨_,rfl⟩;have hw:IntKind.i64.wrap ((S.gone:Int)+1)=g1:=by rw[show((S.gone:Int)+1)=((S.gone+1:Nat):Int)from by omega,hg1];exact IntWalk.i64_in _ (by omega)
 obtain⟨h1,f1⟩:=h.goes (z:=g1) hg1;have HG1:=Lib.hid hg1;have H1:=Lib.hid h1;have HF1:=Lib.hid f1;have c10:w.cell? ⟨lb,10,none⟩=some (.int .i64 S.gone):=h.ce 10 (by omega);have lt:=h.blk.lt;have fz:=h.blk.frozen 10;have HX:=Lib.hid hx;have HOLD:=Lib.hid h.ok.old;have HORD:=Lib.hid h.ok.ord;have HLEN:=Lib.hid h.ok.oldn;have HNEW:=Lib.hid hnew;have hcv:IntKind.i64.wrap (x:Int)=(x:Int):=IntWalk.i64_in _ (by unfold okN at hx;omega);have HLT:Hid (∀i,F4 i->i<w.heap.size):=h.qk.lt;clear h h1 f1 hnew hx hg1;go_enter Try.func37,Try.ntmps37
 go_upto_region 1 with fail
 generalize w.setCell ⟨lb,10,none⟩ (.int .i64 g1)=w1 at*;have c9:w1.cell? ⟨lb,9,none⟩=some (.pointer (some ⟨q4,0,none⟩)):=H1.out.ce 9 (by omega);have c10':w1.cell? ⟨lb,10,none⟩=some (.int .i64 g1):=by rw[HG1.out];exact H1.out.ce 10 (by omega)
 have lt1:=H1.out.blk.lt;clear c10 lt fz;have HP:=Lib.hid (qk_put (H1.out.qk.fr0 (Fr.refl NoF w1).drew) HX.out (a:=g1) (b:=0) (i64_in (by rw[HG1.out];exact⟨by omega,by omega⟩)) (i64_in ⟨by omega,by omega⟩) (by show S.Old.length<900000;have:=HLEN.out;omega));have H1d:=Lib.hid (H1.out.fr0 (Fr.refl NoF w1).drew)
 go_still_tail 11,(by kernel_rfl)
 go_wp2_with fail
 refine HP.out.mono ?_;rintro e w2⟨rfl,F4a,h2,f2,hF2⟩;have e1:updK (oldK S.Old) x (some (g1,0))=oldK (S.Old++[(x,S.gone+1)]):=by rw[HG1.out];exact(oldK_app HNEW.out _).symm
 have e2:moreN S.Old.length (oldK S.Old x).isSome=(S.Old++[(x,S.gone+1)]).length:=by rw[HNEW.out,List.length_append];rfl
 have h2':QK w2 q4 (oldK (S.Old++[(x,S.gone+1)])) (S.Old++[(x,S.gone+1)]).length F4a:=by rw[<-e1,<-e2];exact h2
 have hord:OrdO (S.Old++[(x,S.gone+1)]):=ord_app HORD.out HNEW.out (fun p q=>by have:=(HOLD.out p q).2;omega)
 have h3:=H1d.out.newQ h2' f2 hF2 (fun p q=>by
  rcases List.mem_append.1 q with q|q
  .exact⟨(HOLD.out p q).1,Nat.le_succ_of_le (HOLD.out p q).2⟩
  .obtain rfl:p=(x,S.gone+1):=by simpa using q
   exact⟨HX.out,Nat.le_refl _⟩) (by rw[List.length_append];exact Nat.succ_le_succ HLEN.out) hord
 have H3:=Lib.hid h3;have HORD2:=Lib.hid hord;have f12:Fr (LF lb fb mb FC F4) w w2:=((HF1.out.mono (fun i q=>.inl q)).drew).trans f2 (fun i q=>.inl (.inr (.inr (.inr (.inr q)))));have HF2:=Lib.hid f12;have hF2':∀i,F4a i->F4 i∨w.heap.size<=i:=fun i q=>(hF2 i q).elim .inl (fun z=>.inr (Nat.le_trans HF1.out.size z))
 have HG2:=Lib.hid hF2';have HREM:Hid (remS S x=if S.kept<(S.Old++[(x,S.gone+1)]).length then{S with gone:=S.gone+1,Old:=(S.Old++[(x,S.gone+1)]).tail,P:=updO S.P ((S.Old++[(x,S.gone+1)]).headD (0,0)).1 none}else{S with gone:=S.gone+1,Old:=S.Old++[(x,S.gone+1)]}):=rfl;have hl1:(S.Old++[(x,S.gone+1)]).length<900000:=by rw[List.length_append];have:=HLEN.out;simp;omega
 clear h2 f2 hF2 e1 e2 h2' hord h3 f12 hF2' c9 c10' lt1;generalize hl:S.Old++[(x,S.gone+1)]=l at*;have HL:=Lib.hid hl;clear hl;have c9:w2.cell? ⟨lb,9,none⟩=some (.pointer (some ⟨q4,0,none⟩)):=H3.out.ce 9 (by omega);have c2:w2.cell? ⟨lb,2,none⟩=some (.int .i64 S.kept):=H3.out.ce 2 (by omega);have lt2:=H3.out.blk.lt;have HQL:Hid (∀W,Fr NoF w2 W->Calls Try.prog 38 #[.pointer (some ⟨q4,0,none⟩)] W fun e w'=>e=.returned (.int .i64 (l.length:Nat))∧W=w'):=fun W f=>qk_len (H3.out.qk.fr0 f)
 by_cases hk:S.kept<l.length
 .have hki:(S.kept:Int)<(l.length:Int):=by omega
  obtain⟨p,l',rfl⟩:∃p l',l=p::l':=by
   cases l with
   |nil=>simp at hk
   |cons p l'=>exact⟨p,l',rfl⟩
  have hki2:(S.kept:Int)<(l'.length:Int)+1:=by rw[List.length_cons]at hki;omega
  go_wp2_with fail
  go_quiet ((go_at_call 38;(with_reducible exact qs (HQL.out _ (by first|exact Fr.refl _ _|exact(Fr.refl NoF w2).drew|exact(Fr.refl NoF w2).drewN _)))))
  have h4:=H3.out.fr0 ((Fr.refl NoF w2).drewN nq);have f4:=HF2.out.drewN nq;have hs4:w2.heap.size=(w2.drewN nq).heap.size:=rfl;clear HQL c9 c2 lt2;generalize w2.drewN nq=w3 at*;have H4:=Lib.hid h4;have HF4:=Lib.hid f4;have c9:w3.cell? ⟨lb,9,none⟩=some (.pointer (some ⟨q4,0,none⟩)):=h4.ce 9 (by omega);have lt3:=h4.blk.lt;have hp1:okN p.1:=(h4.ok.old p (by simp)).1;obtain⟨y,hly,HLy⟩:=qk_least h4.qk (by simp);obtain rfl:=oldK_least HORD2.out hly;have HD:=Lib.hid (qk_drop h4.qk hp1);have HP1:=Lib.hid hp1;have hcu:IntKind.u32.wrap (p.1:Int)=(p.1:Int):=IntWalk.u32_in _ (by unfold okN at hp1;omega);have hwf:=okN_wf hp1;clear h4 f4 hly hp1 hs4
  go_wp2_with fail
  refine(HLy.out _ (Fr.refl _ _)).mono ?_;rintro e w4⟨rfl,rfl⟩
  go_wp2_with fail
  refine HD.out.mono ?_;rintro e w5⟨rfl,hq,f5⟩;have e1:updK (oldK (p::l')) p.1 none=oldK l':=(oldK_tail HORD2.out).symm;have e2:lessN (p::l').length (oldK (p::l') p.1).isSome=l'.length:=by rw[oldK_cons,if_pos rfl];simp[lessN]
  have hq':QK w5 q4 (oldK l') l'.length F4a:=by rw[<-e1,<-e2];exact hq
  have hS4:=H4.out.ok;have h5:=H4.out.newQ hq' f5 (fun i q=>.inl q) (fun r hr=>hS4.old r (by simp[hr])) (by have:=hS4.oldn;simp at this;show l'.length<=S.gone+1;omega) (List.pairwise_cons.1 HORD2.out).2;have H5:=Lib.hid h5;have HF5:=Lib.hid f5;have c5:w5.cell? ⟨lb,5,none⟩=some (.map (some mb)):=h5.ce 5 (by omega);have lt5:=h5.blk.lt;clear e1 e2 hq' hS4 h5 f5 hq c9;generalize(oldK (p::l') p.1).isSome=ob at*
  go_wp2_with(at_delete;go_must(refine wp_delV MVp H5.out.mp rfl _ _ rfl (by rfl) (by rfl) hwf ?_);intro w6 m1 m2;have KK:=Lib.hid (H5.out.forget m1 m2);have KF:=Lib.hid m2;clear m1 m2)
  go_returns;have gF:∀i,F4a i->LF lb fb mb FC F4 i∨w.heap.size<=i:=fun i q=>(HG2.out i q).elim (fun z=>.inl (.inr (.inr (.inr (.inr z))))) .inr
  rw[HREM.out,if_pos hk];exact⟨rfl,_,F4a,KK.out,(HF4.out.trans HF5.out gF).trans KF.out (fun i q=>.inl (.inr (.inr (.inl q)))),HG2.out⟩
 .have hki:¬(S.kept:Int)<(l.length:Int):=by omega
  have hkd:decide ((S.kept:Int)<(l.length:Int))=false:=by simpa using hki
  go_wp2_with fail
  go_quiet ((go_at_call 38;(with_reducible exact qs (HQL.out _ (by first|exact Fr.refl _ _|exact(Fr.refl NoF w2).drew|exact(Fr.refl NoF w2).drewN _)))))
  go_wp2;go_returns;rw[HREM.out,if_neg hk];exact⟨rfl,ne,F4a,H3.out.fr0 ((Fr.refl NoF w2).drewN _),HF2.out.drewN _,HG2.out⟩
end
theorem touched_any{w:World}(last:Int)(t:Nat->Int)(now near:Int)(k:Nat)(hk:1<=k∧k<=8)(hb:0<=last∧last<=now∧now<100000000)(ht:∀j,0<=t j∧t j<=last∧t j<=t 0):Calls Try.prog 29 #[pastV last t,.int .i64 now,.int .i64 near,.int .i64 k] w fun e w'=>e=.returned (pastV now (touchT last t now near k))∧Fr NoF w w':=by
 unfold touchT;by_cases h:¬last=0∧now-last<=near
 .rw[if_pos h]
  exact touched_near last t now near k h.1 h.2 hb
 .rw[if_neg h]
  exact touched_far last t now near k (by omega) hk hb ht
theorem touchT_ok(last:Int)(t:Nat->Int)(now near:Int)(k:Nat)(hb:0<=last∧last<=now)(ht:∀j,0<=t j∧t j<=last∧t j<=t 0):∀j,0<=touchT last t now near k j∧touchT last t now near k j<=now∧touchT last t now near k j<=touchT last t now near k 0:=by
 intro j;unfold touchT;by_cases h:¬last=0∧now-last<=near
 .rw[if_pos h]
  have:=ht j;omega
 .rw[if_neg h,upd_same]
  by_cases e:j=0
  .subst e;rw[upd_same];omega
  .rw[upd_other _ _ e]
   unfold timesF;have h1:=ht j;have h2:=ht (j-1);have h0:=ht 0
   split
   .split<;>omega
   .omega
def touS(S:LK)(pg:Nat):LK:=
 {S with T:=S.T+1,P:=updO S.P pg (some (((S.T+1:Nat):Int),touchT (pastOf S pg).1 (pastOf S pg).2 ((S.T+1:Nat):Int) S.near S.k))}
def rerS(S:LK)(at':Nat):LK:=
 if(S.R at').isSome then{S with R:=updK S.R at' (some (rankOf S (S.fr at').2)),Fa:=updB1 S.Fa at' false}else S
def comS(S:LK)(at' page:Nat):LK:=
 if(S.fr at').1 then S else{S with fr:=updF S.fr at' (true,page),Old:=woO S.Old page}
def accS(S:LK)(at' page:Nat):LK:=rerS (touS (comS S at' page) ((comS S at' page).fr at').2) at'
section
variable{w w':World}{lb fb mb q1 q2 q3 q4 ne:Nat}{S:LK}{FC F4:Nat->Prop}
theorem LM.touch(h:LM w lb S fb mb q1 q2 q3 q4 ne FC F4){w1 w2:World}{g1:Int}(hg1:g1=((S.T+1:Nat):Int))(h1:LM w1 lb {S with T:=S.T+1} fb mb q1 q2 q3 q4 ne FC F4){pg:Nat}
  (hm:MpV Try.prog 35 .u32 zeroPast w2 mb (if(psM S.P (pg:Int)).isSome then ne else ne+1) (updV (psM S.P) (pg:Int) (some (pastV g1 (touchT (pastOf S pg).1 (pastOf S pg).2 g1 S.near S.k)))))(f:Fr (fun i=>i=mb) w1 w2):
  ∃ne',LM w2 lb (touS S pg) fb mb q1 q2 q3 q4 ne' FC F4:=by
 subst hg1;have e:=psM_upd S.P pg (some (((S.T+1:Nat):Int),touchT (pastOf S pg).1 (pastOf S pg).2 ((S.T+1:Nat):Int) S.near S.k));simp only[Option.map_some]at e;rw[e]at hm;have hp:=h.pastok pg;refine⟨_,h1.newMap hm f (by have:=h.ne;show _<=S.T+1;split<;>omega) (fun z p q=>?_)⟩;by_cases e:z=pg
 .subst e
  rw[updO_same]at q
  injection q with q
  subst q;exact⟨by show(0:Int)<=((S.T+1:Nat):Int);omega,Int.le_refl _,touchT_ok _ _ _ _ _ ⟨hp.1,by omega⟩ hp.2.2⟩
 .rw[updO_other _ _ e]at q
  exact h1.ok.past z p q
theorem access_full(h:LM w lb S fb mb q1 q2 q3 q4 ne FC F4){at' page:Nat}(ha:at'<S.n)(hp:okN page)(hT:S.T<900000)(hfu:(S.fr at').1=true):Calls Try.prog 15 #[.pointer (some ⟨lb,0,none⟩),.int .i64 at',.int .u32 page] w fun e w'=>e=.returned (.tuple #[])∧∃ne' FC' F4',LM w' lb (accS S at' page) fb mb q1 q2 q3 q4 ne' FC' F4'∧Fr (LF lb fb mb FC F4) w w'∧(∀i,FC' i->FC i∨w.heap.size<=i)∧∀i,F4' i->F4 i∨w.heap.size<=i:=by
 have HA:Hid (at'<S.n):=ha;have HI:=Lib.hid (isFrame_calls h ha);have c4:w.cell? ⟨lb,4,none⟩=some (.slice (some ⟨fb,0,none⟩) S.n S.n):=h.ce 4 (by omega);have lt:=h.blk.lt;have lf:=h.frs.lt;have hfc:w.cell? ⟨fb,at'*2,none⟩=some (.bool true):=by rw[<-hfu];exact h.full ha
 have ha1:(at':Int)<S.n:=by omega
 have ha0:0<=(at':Int):=by omega
 have HFU:=Lib.hid hfu;have H0:=Lib.hid h;have HTT:=Lib.hid hT;clear h hfu hT ha hp;go_enter Try.func15,Try.ntmps15
 go_wp2_with fail
 refine HI.out.mono ?_;rintro e w1⟨rfl,rfl⟩
 go_upto_region 5 with fail
 clear c4 hfc HI lt lf ha1 ha0;have hB:=H0.out;have hTB:=HTT.out;have HFRB:Hid (Fr (LF lb fb mb FC F4) w w):=Fr.refl _ _;have HGB:Hid (∀i,F4 i->F4 i∨w.heap.size<=i):=fun i q=>.inl q
 have eAcc:Hid (accS S at' page=rerS (touS S (S.fr at').2) at'):=by unfold accS comS;rw[if_pos HFU.out];rfl
 obtain⟨g1,hg1⟩:∃g1:Int,g1=((S.T+1:Nat):Int):=⟨_,rfl⟩;have hw:IntKind.i64.wrap ((S.T:Int)+1)=g1:=by rw[show((S.T:Int)+1)=((S.T+1:Nat):Int)from by omega,hg1];exact IntWalk.i64_in _ (by omega)
 obtain⟨h1,f1⟩:=hB.tick (z:=g1) hg1;have HB:=Lib.hid hB;have H1:=Lib.hid h1;have HF1:=Lib.hid f1;have HG1:=Lib.hid hg1;have c3:w.cell? ⟨lb,3,none⟩=some (.int .i64 S.T):=hB.ce 3 (by omega);have lt:=hB.blk.lt;have fz:=hB.blk.frozen 3;have HTB:=Lib.hid hTB;clear hB h1 f1 hg1 hTB
 go_upto_region 6 with fail
 generalize w.setCell ⟨lb,3,none⟩ (.int .i64 g1)=wC at*;clear c3 lt fz hw;obtain⟨PG,hPG⟩:∃PG,PG=(S.fr at').2:=⟨_,rfl⟩;have HPG:=Lib.hid hPG;have c0:wC.cell? ⟨lb,0,none⟩=some (.int .i64 S.k):=H1.out.ce 0 (by omega);have c1:wC.cell? ⟨lb,1,none⟩=some (.int .i64 S.near):=H1.out.ce 1 (by omega);have c3:wC.cell? ⟨lb,3,none⟩=some (.int .i64 g1):=by rw[HG1.out];exact H1.out.ce 3 (by omega)
 have c5:wC.cell? ⟨lb,5,none⟩=some (.map (some mb)):=H1.out.ce 5 (by omega);have pgc:wC.cell? ⟨fb,at'*2+1,none⟩=some (.int .u32 (PG:Nat)):=by rw[hPG];exact H1.out.page HA.out
 have lt:=H1.out.blk.lt;have lf:=H1.out.frs.lt;have hpk:okN PG:=by rw[hPG];exact HB.out.ok.fr at'
 have HD:=Lib.hid (H1.out.fr0 ((Fr.refl NoF wC).drew));have hwf:=okN_wf hpk;have hlk:(Instr.lookup 45 (.map (some mb)) (.int .u32 (PG:Nat)) false).run Try.prog wC.drew=.ok (pastV (pastOf S PG).1 (pastOf S PG).2) wC.drew:=HD.out.look hpk;have hpo:=HB.out.pastok PG;have HT:Hid (∀W,Fr NoF wC W->Calls Try.prog 29 #[pastV (pastOf S PG).1 (pastOf S PG).2,.int .i64 g1,.int .i64 S.near,.int .i64 S.k] W fun e w'=>e=.returned (pastV g1 (touchT (pastOf S PG).1 (pastOf S PG).2 g1 S.near S.k))∧Fr NoF wC w'):=fun W fW=>(touched_any _ _ _ _ _ HB.out.ok.k1 ⟨hpo.1,by rw[HG1.out];omega,by rw[HG1.out];have:=HTB.out;omega⟩ hpo.2.2).mono fun e w' ⟨he,hf⟩=>⟨he,fW.trans hf (fun _ q=>q.elim)⟩
 clear hpo hPG;have HPK:=Lib.hid hpk;clear hpk;generalize hpv:pastV (pastOf S PG).1 (pastOf S PG).2=pv at*;have HPV:=Lib.hid hpv;clear hpv;have HTV:Hid (pastV g1 (touchT (pastOf S PG).1 (pastOf S PG).2 g1 S.near S.k)=pastV g1 (touchT (pastOf S PG).1 (pastOf S PG).2 g1 S.near S.k)):=rfl;generalize htv:pastV g1 (touchT (pastOf S PG).1 (pastOf S PG).2 g1 S.near S.k)=tv at HT;have HTV2:=Lib.hid htv;clear htv HTV
 have HC:Hid (∀W,Fr (fun i=>i=mb) wC W->W.cell? ⟨lb,0,none⟩=some (.int .i64 S.k)∧W.cell? ⟨lb,1,none⟩=some (.int .i64 S.near)∧W.cell? ⟨lb,3,none⟩=some (.int .i64 g1)∧W.cell? ⟨lb,5,none⟩=some (.map (some mb))∧W.cell? ⟨fb,at'*2+1,none⟩=some (.int .u32 (PG:Nat))):=fun W f=>
  ⟨(f.cell (p:=⟨lb,0,none⟩) H1.out.blk.lt (fun q=>H1.out.d2 q.symm)).trans c0,(f.cell (p:=⟨lb,1,none⟩) H1.out.blk.lt (fun q=>H1.out.d2 q.symm)).trans c1,(f.cell (p:=⟨lb,3,none⟩) H1.out.blk.lt (fun q=>H1.out.d2 q.symm)).trans c3,(f.cell (p:=⟨lb,5,none⟩) H1.out.blk.lt (fun q=>H1.out.d2 q.symm)).trans c5,(f.cell (p:=⟨fb,at'*2+1,none⟩) H1.out.frs.lt (fun q=>H1.out.d3 q.symm)).trans pgc⟩
 have hmx:ne<1000000:=by have:=HB.out.ne;have:=HTB.out;omega
 have HMX:=Lib.hid hmx;clear hmx
 go_region_held3(fun w'=>w'.cell? ⟨lb,0,none⟩=some (.int .i64 S.k)∧w'.cell? ⟨lb,1,none⟩=some (.int .i64 S.near)∧w'.cell? ⟨lb,3,none⟩=some (.int .i64 g1)∧w'.cell? ⟨lb,5,none⟩=some (.map (some mb))∧w'.cell? ⟨fb,at'*2+1,none⟩=some (.int .u32 (PG:Nat)))
  (exact HC.out _ (by repeat(first|exact FM.out|exact FT.out.none|exact Fr.refl _ _|apply Fr.drew)))
  (first
  |(go_at_call 29;(with_reducible refine(HT.out _ (by repeat(first|exact Fr.refl NoF _|apply Fr.drew))).mono ?_);rintro e wT⟨rfl,fT⟩;obtain⟨wM,hrun,m1,m2⟩:=(H1.out.fr0 fT).mp.put_run MVp HMX.out hwf tv;have KM:=Lib.hid m1;have KF:=Lib.hid m2;have FT:=Lib.hid fT;have FM:Hid (Fr (fun i=>i=mb) wC wM):=fT.none.trans m2 (fun _ q=>.inl q);clear fT m1 m2))
 go_wp2_with fail
 obtain⟨ne2,h2⟩:=HB.out.touch HG1.out (H1.out.fr0 FT.out) (pg:=PG) (by rw[HTV2.out];exact KM.out) KF.out;have hfM:Fr (LF lb fb mb FC F4) w wM:=(HFRB.out.trans HF1.out (fun i q=>.inl (.inl q))).trans FM.out (fun i q=>.inl (.inr (.inr (.inl q))));obtain⟨S2,hS2⟩:∃S2,S2=touS S PG:=⟨_,rfl⟩;have e1:S2.fr=S.fr:=by rw[hS2];rfl
 have e2:S2.n=S.n:=by rw[hS2];rfl
 have e3:S2.T<1000000:=by rw[hS2];show S.T+1<1000000;have:=HTB.out;omega
 have ha2:at'<S2.n:=by rw[e2];exact HA.out
 have hEA:accS S at' page=rerS S2 at':=by rw[eAcc.out,hS2,HPG.out]
 rw[<-hS2]at h2;have hpg2:(S2.fr at').2=PG:=by rw[e1];exact HPG.out.symm
 have HEA:=Lib.hid hEA;have H2:=Lib.hid h2;have HFM:=Lib.hid hfM;have HE3:=Lib.hid e3;have HA2:=Lib.hid ha2;have HPG2:=Lib.hid hpg2;have hat:okN at':=by have:=h2.ok.n1;unfold okN;omega
 have HAT:=Lib.hid hat;have HH:=Lib.hid (cc_has h2.cc hat);clear c0 c1 c3 c5 pgc lt lf hlk hwf hrun HT HC KM KF FT FM HB H1 HTV2 HPV HFRB hS2 e1 e2 e3 ha2 hEA h2 hpg2 hat hfM HG1 HTB HF1 HPG eAcc;refine HH.out.mono ?_;rintro e wN⟨rfl,fN⟩;have h3:=H2.out.fr0 fN;have H3:=Lib.hid h3;have HFN:Hid (Fr (LF lb fb mb FC F4) w wN):=HFM.out.trans fN (fun _ q=>q.elim);have pgc:wN.cell? ⟨fb,at'*2+1,none⟩=some (.int .u32 (PG:Nat)):=by rw[<-HPG2.out];exact h3.page HA2.out
 have lt:=h3.blk.lt;have lf:=h3.frs.lt;clear h3 fN HH
 cases hR:(S2.R at').isSome with
 |false=>
  have HR:=Lib.hid hR;clear hR;go_wp2;go_returns;rw[HEA.out];unfold rerS;rw[if_neg (by rw[HR.out];simp)];exact⟨rfl,ne2,FC,F4,H3.out,HFN.out,fun i q=>.inl q,HGB.out⟩
 |true=>
  have HR:=Lib.hid hR;clear hR;have hrk:=H3.out.pastok PG
  have hk8:0<=(rankOf S2 PG).1∧(rankOf S2 PG).1<=S2.T∧0<=(rankOf S2 PG).2∧(rankOf S2 PG).2<=S2.T:=by
   have:=hrk.2.2 (S2.k-1);unfold rankOf;simp only;omega
  have HRK:=Lib.hid hk8;have HCR:Hid (∀W,Fr NoF wN W->Calls Try.prog 32 #[.pointer (some ⟨lb,0,none⟩),.int .u32 PG] W fun e w'=>e=.returned (.agg #[.int .i64 (rankOf S2 PG).1,.int .i64 (rankOf S2 PG).2])∧Fr NoF wN w'):=fun W f=>(rank_calls (H3.out.fr0 f) HPK.out).mono fun e w' ⟨he,hf⟩=>⟨he,f.trans hf (fun _ q=>q.elim)⟩
  clear hrk hk8;generalize hr1:(rankOf S2 PG).1=r1 at*;generalize hr2:(rankOf S2 PG).2=r2 at*;have HR1:=Lib.hid hr1;have HR2:=Lib.hid hr2;clear hr1 hr2;have HC2:Hid (∀W,Fr NoF wN W->W.cell? ⟨fb,at'*2+1,none⟩=some (.int .u32 (PG:Nat))):=fun W f=>by rw[<-HPG2.out];exact(H3.out.fr0 f).page HA2.out
  have HP:Hid (∀W,Fr NoF wN W->Calls Try.prog 31 #[.pointer (some ⟨lb,6,none⟩),.int .i64 at',.agg #[.int .i64 r1,.int .i64 r2]] W fun e w'=>e=.returned (.tuple #[])∧∃FC',LM w' lb {S2 with R:=updK S2.R at' (some (r1,r2)),Fa:=updB1 S2.Fa at' false,t:=S2.t} fb mb q1 q2 q3 q4 ne2 FC' F4∧Fr FC wN w'∧(∀i,FC' i->FC i∨wN.heap.size<=i)∧w'.cell? ⟨fb,at'*2+1,none⟩=some (.int .u32 (PG:Nat))):=fun W f=>by
   have h5:=H3.out.fr0 f;refine(cc_put h5.cc HAT.out (a:=r1) (b:=r2) (i64_in (by have:=HRK.out;have:=HE3.out;omega)) (i64_in (by have:=HRK.out;have:=HE3.out;omega)) (by have:=h5.ok.tle;have:=h5.ok.n1;omega)).mono ?_;rintro e wP⟨he,FC',hc,fP,hFC⟩;rw[HR.out]at hc;have h6:=h5.newCC hc fP hFC (by show moreN S2.t true=cntR (updK S2.R at' (some (r1,r2))) S2.n;rw[cntR_put _ _ HA2.out,HR.out,<-H3.out.ok.tn]);exact⟨he,FC',h6,f.none.trans fP (fun i q=>.inl q),fun i q=>(hFC i q).elim .inl (fun z=>.inr (Nat.le_trans f.size z)),by rw[<-HPG2.out];exact h6.page HA2.out⟩
  go_wp2_with fail
  go_region_held3(fun w'=>w'.cell? ⟨fb,at'*2+1,none⟩=some (.int .u32 (PG:Nat)))
   (first|exact HPP.out|exact HC2.out _ (by repeat(first|exact FR.out|exact Fr.refl NoF _|apply Fr.drew)))
   (first
   |(go_at_call 32;(with_reducible refine(HCR.out _ (by repeat(first|exact Fr.refl NoF _|apply Fr.drew))).mono ?_);rintro e wR⟨rfl,fR⟩;have FR:=Lib.hid fR;clear fR)
   |(go_at_call 31;(with_reducible refine(HP.out _ (by repeat(first|exact FR.out|apply Fr.drew))).mono ?_);rintro e wP⟨rfl,FC',h6,fP,hFC,hpp⟩;have HPP:=Lib.hid hpp;have H6:=Lib.hid h6;have FP:=Lib.hid fP;have HFC:=Lib.hid hFC;clear h6 fP hFC hpp))
  go_wp2;go_returns;rw[HEA.out];unfold rerS;rw[if_pos HR.out,HPG2.out]
  exact⟨rfl,ne2,FC',F4,by
   have:=H6.out;rw[<-HR1.out,<-HR2.out]at this;exact this,HFN.out.trans FP.out (fun i q=>.inl (.inr (.inr (.inr (.inl q))))),fun i q=>(HFC.out i q).elim .inl (fun z=>.inr (Nat.le_trans HFN.out.size z)),HGB.out⟩
end
end
end Go.Proofs.Ytcccbdnojlmgaaa
