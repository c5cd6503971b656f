/- Part 11. -/
import Derived.Test.YtoenclhimbpfeaaGreatDoorW10
namespace Go.Proofs.YtoenclhimbpfeaaGreatDoor
set_option linter.all false
set_option maxHeartbeats 16000000
set_option maxRecDepth 100000
section
open Go.Maps Go.Proofs.Tryz Go.RowKit
section
variable{w w':World}{lb fb mb q1 q2 q3 q4 ne:Nat}{S:LK}{FC F4:Nat->Prop}
theorem LM.forget(h:LM w lb S fb mb q1 q2 q3 q4 ne FC F4){x:Nat}(hm:MpV prog 34 .u32 bC w' mb (if(psM S.P (x:Int)).isSome then ne-1 else ne) (dJ (psM S.P) (x:Int) none))(f:Fr (λi=>i=mb) w w'):LM w' lb {S with P:=gO S.P x none} fb mb q1 q2 q3 q4 (if(psM S.P (x:Int)).isSome then ne-1 else ne) FC F4:=by
 have e:dJ (psM S.P) (x:Int) none=psM (gO S.P x none):=vJ S.P x none;rw[e]at hm;refine h.newMap hm f (by have:=h.ne;split<;>omega) (λz p q=>?_);by_cases e:z=x
 .subst e;rw[hZ]at q;cases q
 .rw[fO _ _ e]at q;exact h.ok.past z p q
theorem kW(h:LM w lb S fb mb q1 q2 q3 q4 ne FC F4){x:Nat}(hx:okN x)(hnew:bb S.Old x=none)(hg:S.gone<800000):Calls prog 193 #[.pointer (some ⟨lb,0,none⟩),.int .u32 x] w λe w'=>e=.returned (.tuple #[])/\∃ne' F4',LM w' lb (yg S x) fb mb q1 q2 q3 q4 ne' FC F4'/\Fr (LFK lb fb mb FC F4) w w'/\∀i,F4' i->F4 i\/w.heap.size<=i:=by
 obtain⟨g1,hg1⟩:∃g1:Int,g1=((S.gone+1:Nat):Int):=⟨_,rfl⟩;have hw:IntKind.i64.wrap ((S.gone:Int)+1)=g1:=by rw[show((S.gone:Int)+1)=((S.gone+1:Nat):Int)from by omega,hg1];exact IntWalk.i64_in _ (by omega)
 obtain⟨h1,f1⟩:=h.goes (z:=g1) hg1;have HG1:=Hd hg1;have H1:=Hd h1;have HF1:=Hd f1;have c10:w.cell? ⟨lb,10,none⟩=some (.int .i64 S.gone):=h.ce 10 (by omega);have lt:=h.blk.lt;have fz:=h.blk.frozen 10;have HX:=Hd hx;have HOLD:=Hd h.ok.old;have HORD:=Hd h.ok.ord;have HLEN:=Hd h.ok.oldn;have HNEW:=Hd hnew;have hcv:IntKind.i64.wrap (x:Int)=(x:Int):=IntWalk.i64_in _ (by unfold okN at hx;omega);have HLT:Hid (∀i,F4 i->i<w.heap.size):=h.qk.lt;clear h h1 f1 hnew hx hg1;go_enter func193,ntmps193
 go_upto_region 1 with fail
 generalize w.setCell ⟨lb,10,none⟩ (.int .i64 g1)=w1 at*;have c9:w1.cell? ⟨lb,9,none⟩=some (.pointer (some ⟨q4,0,none⟩)):=H1.out.ce 9 (by omega);have c10':w1.cell? ⟨lb,10,none⟩=some (.int .i64 g1):=by rw[HG1.out];exact H1.out.ce 10 (by omega)
 have lt1:=H1.out.blk.lt;clear c10 lt fz;have HP:=Hd (oH (H1.out.qk.fr0 (Fr.refl NoF w1).drew) HX.out (a:=g1) (b:=0) (i64_in (by rw[HG1.out];exact⟨by omega,by omega⟩)) (i64_in ⟨by omega,by omega⟩) (by show S.Old.length<900000;have:=HLEN.out;omega));have H1d:=Hd (H1.out.fr0 (Fr.refl NoF w1).drew)
 go_still_tail 11,(by kernel_rfl)
 go_wp2_with fail
 refine HP.out.mono ?_;rintro e w2⟨rfl,F4a,h2,f2,hF2⟩;have e1:updKK (bb S.Old) x (some (g1,0))=bb (S.Old++[(x,S.gone+1)]):=by rw[HG1.out];exact(yH HNEW.out _).symm
 have e2:dM S.Old.length (bb S.Old x).isSome=(S.Old++[(x,S.gone+1)]).length:=by rw[HNEW.out,List.length_append];rfl
 have h2':QK w2 q4 (bb (S.Old++[(x,S.gone+1)])) (S.Old++[(x,S.gone+1)]).length F4a:=by rw[<-e1,<-e2];exact h2
 have hord:pn (S.Old++[(x,S.gone+1)]):=Dg HORD.out HNEW.out (λp q=>by have:=(HOLD.out p q).2;omega)
 have h3:=H1d.out.newQ h2' f2 hF2 (λp q=>by
  rcases List.mem_append.1 q with q|q
  .exact⟨(HOLD.out p q).1,Nat.le_succ_of_le (HOLD.out p q).2⟩
  .obtain rfl:p=(x,S.gone+1):=by simpa using q
   exact⟨HX.out,Nat.le_refl _⟩) (by rw[List.length_append];exact Nat.succ_le_succ HLEN.out) hord
 have H3:=Hd h3;have HORD2:=Hd hord;have f12:Fr (LFK lb fb mb FC F4) w w2:=((HF1.out.mono (λi q=>.inl q)).drew).trans f2 (λi q=>.inl (.inr (.inr (.inr (.inr q)))));have HF2:=Hd f12;have hF2':∀i,F4a i->F4 i\/w.heap.size<=i:=λi q=>(hF2 i q).elim .inl (λz=>.inr (Nat.le_trans HF1.out.size z))
 have HG2:=Hd hF2';have HREM:Hid (yg S x=if S.kept<(S.Old++[(x,S.gone+1)]).length then{S with gone:=S.gone+1,Old:=(S.Old++[(x,S.gone+1)]).tail,P:=gO S.P ((S.Old++[(x,S.gone+1)]).headD (0,0)).1 none}else{S with gone:=S.gone+1,Old:=S.Old++[(x,S.gone+1)]}):=rfl;have hl1:(S.Old++[(x,S.gone+1)]).length<900000:=by rw[List.length_append];have:=HLEN.out;simp;omega
 clear h2 f2 hF2 e1 e2 h2' hord h3 f12 hF2' c9 c10' lt1;generalize hl:S.Old++[(x,S.gone+1)]=l at*;have HL:=Hd hl;clear hl;have c9:w2.cell? ⟨lb,9,none⟩=some (.pointer (some ⟨q4,0,none⟩)):=H3.out.ce 9 (by omega);have c2:w2.cell? ⟨lb,2,none⟩=some (.int .i64 S.kept):=H3.out.ce 2 (by omega);have lt2:=H3.out.blk.lt;have HQL:Hid (∀W,Fr NoF w2 W->Calls prog 201 #[.pointer (some ⟨q4,0,none⟩)] W λe w'=>e=.returned (.int .i64 (l.length:Nat))/\W=w'):=λW f=>tP (H3.out.qk.fr0 f)
 by_cases hk:S.kept<l.length
 .have hki:(S.kept:Int)<(l.length:Int):=by omega
  obtain⟨p,l',rfl⟩:∃p l',l=p::l':=by
   cases l with
   |nil=>simp at hk
   |cons p l'=>exact⟨p,l',rfl⟩
  have hki2:(S.kept:Int)<(l'.length:Int)+1:=by rw[List.length_cons]at hki;omega
  go_wp2_with fail
  go_quiet ((go_at_call 201;(with_reducible exact qs (HQL.out _ (by first|exact Fr.refl _ _|exact(Fr.refl NoF w2).drew|exact(Fr.refl NoF w2).drewN _)))))
  have h4:=H3.out.fr0 ((Fr.refl NoF w2).drewN nq);have f4:=HF2.out.drewN nq;have hs4:w2.heap.size=(w2.drewN nq).heap.size:=rfl;clear HQL c9 c2 lt2;generalize w2.drewN nq=w3 at*;have H4:=Hd h4;have HF4:=Hd f4;have c9:w3.cell? ⟨lb,9,none⟩=some (.pointer (some ⟨q4,0,none⟩)):=h4.ce 9 (by omega);have lt3:=h4.blk.lt;have hp1:okN p.1:=(h4.ok.old p (by simp)).1;obtain⟨y,hly,HLy⟩:=i7 h4.qk (by simp);obtain rfl:=sK HORD2.out hly;have HD:=Hd (gE h4.qk hp1);have HP1:=Hd hp1;have hcu:IntKind.u32.wrap (p.1:Int)=(p.1:Int):=IntWalk.u32_in _ (by unfold okN at hp1;omega);have hwf:=nV hp1;clear h4 f4 hly hp1 hs4
  go_wp2_with fail
  refine(HLy.out _ (Fr.refl _ _)).mono ?_;rintro e w4⟨rfl,rfl⟩
  go_wp2_with fail
  refine HD.out.mono ?_;rintro e w5⟨rfl,hq,f5⟩;have e1:updKK (bb (p::l')) p.1 none=bb l':=(xm HORD2.out).symm;have e2:lessN (p::l').length (bb (p::l') p.1).isSome=l'.length:=by rw[aY,if_pos rfl];simp[lessN]
  have hq':QK w5 q4 (bb l') l'.length F4a:=by rw[<-e1,<-e2];exact hq
  have hS4:=H4.out.ok;have h5:=H4.out.newQ hq' f5 (λi q=>.inl q) (λr hr=>hS4.old r (by simp[hr])) (by have:=hS4.oldn;simp at this;show l'.length<=S.gone+1;omega) (List.pairwise_cons.1 HORD2.out).2;have H5:=Hd h5;have HF5:=Hd f5;have c5:w5.cell? ⟨lb,5,none⟩=some (.map (some mb)):=h5.ce 5 (by omega);have lt5:=h5.blk.lt;clear e1 e2 hq' hS4 h5 f5 hq c9;generalize(bb (p::l') p.1).isSome=ob at*
  go_wp2_with(at_delete;go_must(refine uQ MVp H5.out.mp rfl _ _ rfl (by rfl) (by rfl) hwf ?_);intro w6 m1 m2;have KK:=Hd (H5.out.forget m1 m2);have KF:=Hd m2;clear m1 m2)
  go_returns;have gF:∀i,F4a i->LFK lb fb mb FC F4 i\/w.heap.size<=i:=λi q=>(HG2.out i q).elim (λz=>.inl (.inr (.inr (.inr (.inr z))))) .inr
  rw[HREM.out,if_pos hk];exact⟨rfl,_,F4a,KK.out,(HF4.out.trans HF5.out gF).trans KF.out (λi q=>.inl (.inr (.inr (.inl q)))),HG2.out⟩
 .have hki:¬(S.kept:Int)<(l.length:Int):=by omega
  have hkd:decide ((S.kept:Int)<(l.length:Int))=false:=by simpa using hki
  go_wp2_with fail
  go_quiet ((go_at_call 201;(with_reducible exact qs (HQL.out _ (by first|exact Fr.refl _ _|exact(Fr.refl NoF w2).drew|exact(Fr.refl NoF w2).drewN _)))))
  go_wp2;go_returns;rw[HREM.out,if_neg hk];exact⟨rfl,ne,F4a,H3.out.fr0 ((Fr.refl NoF w2).drewN _),HF2.out.drewN _,HG2.out⟩
end
theorem qr{w:World}(last:Int)(t:Nat->Int)(now near:Int)(k:Nat)(hk:1<=k/\k<=8)(hb:0<=last/\last<=now/\now<100000000)(ht:∀j,0<=t j/\t j<=last/\t j<=t 0):Calls prog 185 #[bJ last t,.int .i64 now,.int .i64 near,.int .i64 k] w λe w'=>e=.returned (bJ now (cG last t now near k))/\Fr NoF w w':=by
 unfold cG;by_cases h:¬last=0/\now-last<=near
 .rw[if_pos h]
  exact o5 last t now near k h.1 h.2 hb
 .rw[if_neg h]
  exact pZ last t now near k (by omega) hk hb ht
theorem yb(last:Int)(t:Nat->Int)(now near:Int)(k:Nat)(hb:0<=last/\last<=now)(ht:∀j,0<=t j/\t j<=last/\t j<=t 0):∀j,0<=cG last t now near k j/\cG last t now near k j<=now/\cG last t now near k j<=cG last t now near k 0:=by
 intro j;unfold cG;by_cases h:¬last=0/\now-last<=near
 .rw[if_pos h]
  have:=ht j;omega
 .rw[if_neg h,upd_same]
  by_cases e:j=0
  .subst e;rw[upd_same];omega
  .rw[aa _ _ e]
   unfold timesF;have h1:=ht j;have h2:=ht (j-1);have h0:=ht 0
   split
   .split<;>omega
   .omega
def touS(S:LK)(pg:Nat):LK:=
 {S with T:=S.T+1,P:=gO S.P pg (some (((S.T+1:Nat):Int),cG (pastOf S pg).1 (pastOf S pg).2 ((S.T+1:Nat):Int) S.near S.k))}
def dG(S:LK)(at':Nat):LK:=
 if(S.R at').isSome then{S with R:=updKK S.R at' (some (bY S (S.fr at').2)),Fa:=updB1 S.Fa at' false}else S
def bH(S:LK)(at' page:Nat):LK:=
 if(S.fr at').1 then S else{S with fr:=dd S.fr at' (true,page),Old:=woO S.Old page}
def accS(S:LK)(at' page:Nat):LK:=dG (touS (bH S at' page) ((bH S at' page).fr at').2) at'
section
variable{w w':World}{lb fb mb q1 q2 q3 q4 ne:Nat}{S:LK}{FC F4:Nat->Prop}
theorem LM.touch(h:LM w lb S fb mb q1 q2 q3 q4 ne FC F4){w1 w2:World}{g1:Int}(hg1:g1=((S.T+1:Nat):Int))(h1:LM w1 lb {S with T:=S.T+1} fb mb q1 q2 q3 q4 ne FC F4){pg:Nat}
  (hm:MpV prog 34 .u32 bC w2 mb (if(psM S.P (pg:Int)).isSome then ne else ne+1) (dJ (psM S.P) (pg:Int) (some (bJ g1 (cG (pastOf S pg).1 (pastOf S pg).2 g1 S.near S.k)))))(f:Fr (λi=>i=mb) w1 w2):
  ∃ne',LM w2 lb (touS S pg) fb mb q1 q2 q3 q4 ne' FC F4:=by
 subst hg1;have e:=vJ S.P pg (some (((S.T+1:Nat):Int),cG (pastOf S pg).1 (pastOf S pg).2 ((S.T+1:Nat):Int) S.near S.k));simp only[Option.map_some]at e;rw[e]at hm;have hp:=h.pastok pg;refine⟨_,h1.newMap hm f (by have:=h.ne;show _<=S.T+1;split<;>omega) (λz p q=>?_)⟩;by_cases e:z=pg
 .subst e
  rw[hZ]at q
  injection q with q
  subst q;exact⟨by show(0:Int)<=((S.T+1:Nat):Int);omega,Int.le_refl _,yb _ _ _ _ _ ⟨hp.1,by omega⟩ hp.2.2⟩
 .rw[fO _ _ e]at q
  exact h1.ok.past z p q
theorem qJ{wN:World}(h:LM wN lb S fb mb q1 q2 q3 q4 ne FC F4){at' PG:Nat}(hpg:PG=(S.fr at').2)(hpk:okN PG)(hA:at'<S.n)(hT:S.T<1000000)(hat:okN at'){bR:Bool}(hR:(S.R at').isSome=bR):∃r1 r2:Int,Hid (bY S PG=(r1,r2))/\
  Hid (∀W,Fr NoF wN W->Calls prog 188 #[.pointer (some ⟨lb,0,none⟩),.int .u32 PG] W λe w'=>e=.returned (.agg #[.int .i64 r1,.int .i64 r2])/\Fr NoF wN w')/\
  Hid (∀W,Fr NoF wN W->W.cell? ⟨lb,4,none⟩=some (.slice (some ⟨fb,0,none⟩) S.n S.n)/\W.cell? ⟨fb,at'*2+1,none⟩=some (.int .u32 (PG:Nat)))/\
  Hid (∀W,Fr NoF wN W->Calls prog 187 #[.pointer (some ⟨lb,6,none⟩),.int .i64 at',.agg #[.int .i64 r1,.int .i64 r2]] W λe w'=>e=.returned (.tuple #[])/\∃FC',LM w' lb {S with R:=updKK S.R at' (some (r1,r2)),Fa:=updB1 S.Fa at' false,t:=dM S.t bR} fb mb q1 q2 q3 q4 ne FC' F4/\Fr FC wN w'/\(∀i,FC' i->FC i\/wN.heap.size<=i)/\w'.cell? ⟨lb,4,none⟩=some (.slice (some ⟨fb,0,none⟩) S.n S.n)/\w'.cell? ⟨fb,at'*2+1,none⟩=some (.int .u32 (PG:Nat))):=by
 have hk8:0<=(bY S PG).1/\(bY S PG).1<=S.T/\0<=(bY S PG).2/\(bY S PG).2<=S.T:=by
  have hrk:=h.pastok PG;have:=hrk.2.2 (S.k-1);unfold bY;simp only;omega
 refine⟨(bY S PG).1,(bY S PG).2,rfl,λW f=>(sG (h.fr0 f) hpk).mono λe w' ⟨he,hf⟩=>⟨he,f.trans hf (λ_ q=>q.elim)⟩,λW f=>⟨(h.fr0 f).ce 4 (by omega),by rw[hpg];exact(h.fr0 f).page hA⟩,λW f=>?_⟩;have h5:=h.fr0 f;refine(El h5.cc hat (i64_in (by omega)) (i64_in (by omega)) (by have:=h5.ok.tle;have:=h5.ok.n1;omega)).mono ?_;rintro e wP⟨he,FC',hc,fP,hFC⟩;rw[hR]at hc;have h6:=h5.newCC hc fP hFC (by show dM S.t bR=_;rw[lE _ _ hA,hR,<-h.ok.tn]);exact⟨he,FC',h6,f.none.trans fP (λi q=>.inl q),λi q=>(hFC i q).elim .inl (λz=>.inr (Nat.le_trans f.size z)),h6.ce 4 (by omega),by rw[hpg];exact h6.page hA⟩
theorem oD(h:LM w lb S fb mb q1 q2 q3 q4 ne FC F4){at' page:Nat}(ha:at'<S.n)(hp:okN page)(hT:S.T<900000):Calls prog 176 #[.pointer (some ⟨lb,0,none⟩),.int .i64 at',.int .u32 page] w λe w'=>e=.returned (.tuple #[])/\∃ne' FC' F4',LM w' lb (accS S at' page) fb mb q1 q2 q3 q4 ne' FC' F4'/\Fr (LFK lb fb mb FC F4) w w'/\(∀i,FC' i->FC i\/w.heap.size<=i)/\∀i,F4' i->F4 i\/w.heap.size<=i:=by
 cases hfu:(S.fr at').1
 case' true=>
  obtain⟨wB,rfl⟩:∃x,x=w:=⟨_,rfl⟩;obtain⟨SB,rfl⟩:∃x,x=S:=⟨_,rfl⟩;have HA:=Hd ha;have HI:=Hd (dD h ha);have c4:wB.cell? ⟨lb,4,none⟩=some (.slice (some ⟨fb,0,none⟩) SB.n SB.n):=h.ce 4 (by omega);have lt:=h.blk.lt;have lf:=h.frs.lt;have hfc:wB.cell? ⟨fb,at'*2,none⟩=some (.bool true):=by rw[<-hfu];exact h.full ha
  have ha1:(at':Int)<SB.n:=by omega
  have ha0:0<=(at':Int):=by omega
  have HFU:=Hd hfu;have H0:=Hd h;have HTT:=Hd hT;clear h hfu hT ha hp;go_enter func176,ntmps176
  go_wp2_with fail
  refine HI.out.mono ?_;rintro e w1⟨rfl,rfl⟩
  go_upto_region 5 with fail
  clear c4 hfc HI lt lf ha1 ha0;have hB:=H0.out;have hTB:=HTT.out;have HFRB:Hid (Fr (LFK lb fb mb FC F4) wB wB):=Fr.refl _ _;have HGB:Hid (∀i,F4 i->F4 i\/wB.heap.size<=i):=λi q=>.inl q
  have eAcc:Hid (accS SB at' page=dG (touS SB (SB.fr at').2) at'):=by unfold accS bH;rw[if_pos HFU.out];rfl
 case' false=>
  have HI:=Hd (dD h ha);have c4:w.cell? ⟨lb,4,none⟩=some (.slice (some ⟨fb,0,none⟩) S.n S.n):=h.ce 4 (by omega);have lt:=h.blk.lt;have lf:=h.frs.lt;have fz0:=h.frs.frozen (at'*2);have fz1:=h.frs.frozen (at'*2+1);have hfc:w.cell? ⟨fb,at'*2,none⟩=some (.bool false):=by rw[<-hfu];exact h.full ha
  have hpc:w.cell? ⟨fb,at'*2+1,none⟩=some (.int .u32 ((S.fr at').2:Nat)):=h.page ha;have ha1:(at':Int)<S.n:=by omega
  have ha0:0<=(at':Int):=by omega
  have hcv:IntKind.i64.wrap (page:Int)=(page:Int):=IntWalk.i64_in _ (by unfold okN at hp;omega);have fX:Fr (λi=>i=fb) w ((w.setCell ⟨fb,at'*2,none⟩ (.bool true)).setCell ⟨fb,at'*2+1,none⟩ (.int .u32 page)):=((Fr.refl (λi=>i=fb) w).setCell (p:=⟨fb,at'*2,none⟩) (.inl rfl) _).setCell (p:=⟨fb,at'*2+1,none⟩) (.inl rfl) _;have hbX:=(h.frs.set (at'*2) (.bool true)).set (at'*2+1) (.int .u32 page);rw[zh]at hbX
  have hX:=h.newFr hbX fX (λi=>by
   unfold dd
   split
   .exact hp
   .exact h.ok.fr i)
  have HX:=Hd hX;have HFX:=Hd fX;have HFU:=Hd hfu;have H0:=Hd h;have HTT:=Hd hT;have HAA:Hid (at'<S.n):=ha;have HPP0:=Hd hp;clear h hfu hT ha hp hX fX hbX;generalize hop:(S.fr at').2=op at hpc;clear hop;go_enter func176,ntmps176
  go_wp2_with fail
  refine HI.out.mono ?_;rintro e w1⟨rfl,rfl⟩
  go_upto_region 4 with fail
  generalize(w.setCell ⟨fb,at'*2,none⟩ (.bool true)).setCell ⟨fb,at'*2+1,none⟩ (.int .u32 page)=wX at*;clear c4 hfc hpc HI lt lf ha1 ha0 fz0 fz1;have HD:=Hd (gE HX.out.qk HPP0.out);have c9:wX.cell? ⟨lb,9,none⟩=some (.pointer (some ⟨q4,0,none⟩)):=HX.out.ce 9 (by omega);have lt:=HX.out.blk.lt
  go_wp2_with fail
  refine HD.out.mono ?_;rintro e wB⟨rfl,hq,fq⟩;have hord:=HX.out.ok.ord;have e1:=um S.Old page;have e2:=Dk hord page;have hq':QK wB q4 (bb (woO S.Old page)) (woO S.Old page).length F4:=by rw[e1,e2];exact hq
  have hB0:=HX.out.newQ hq' fq (λi q=>.inl q) (λp q=>HX.out.ok.old p (DD q).1) (by
   have:=HX.out.ok.oldn;have h3:(woO S.Old page).length<=S.Old.length:=List.length_filter_le _ _;exact Nat.le_trans h3 this) (B7 hord page)
  have HFRB:Hid (Fr (LFK lb fb mb FC F4) w wB):=(HFX.out.mono (λi q=>.inr (.inl q))).trans fq (λi q=>.inl (.inr (.inr (.inr (.inr q)))));have HGB:Hid (∀i,F4 i->F4 i\/w.heap.size<=i):=λi q=>.inl q
  obtain⟨SB,hSB⟩:∃SB:LK,SB={S with fr:=dd S.fr at' (true,page),Old:=woO S.Old page}:=⟨_,rfl⟩
  have eAcc:Hid (accS S at' page=dG (touS SB (SB.fr at').2) at'):=by
   rw[hSB];unfold accS bH;rw[if_neg (by rw[HFU.out];simp)];rfl
  have hB:LM wB lb SB fb mb q1 q2 q3 q4 ne FC F4:=by rw[hSB];exact hB0
  have HA:Hid (at'<SB.n):=by rw[hSB];exact HAA.out
  have hTB:SB.T<900000:=by rw[hSB];exact HTT.out
  clear hB0 hq hq' e1 e2 hord fq HD c9 lt hSB H0 HX HFX;generalize(bb S.Old page).isSome=ob at*
 all_goals
  obtain⟨g1,hg1⟩:∃g1:Int,g1=((SB.T+1:Nat):Int):=⟨_,rfl⟩;have hw:IntKind.i64.wrap ((SB.T:Int)+1)=g1:=by rw[show((SB.T:Int)+1)=((SB.T+1:Nat):Int)from by omega,hg1];exact IntWalk.i64_in _ (by omega)
  obtain⟨h1,f1⟩:=hB.tick (z:=g1) hg1;have HB:=Hd hB;have H1:=Hd h1;have HF1:=Hd f1;have HG1:=Hd hg1;have c3:wB.cell? ⟨lb,3,none⟩=some (.int .i64 SB.T):=hB.ce 3 (by omega);have lt:=hB.blk.lt;have fz:=hB.blk.frozen 3;have HTB:=Hd hTB;clear hB h1 f1 hg1 hTB
  go_upto_region 6 with fail
  generalize wB.setCell ⟨lb,3,none⟩ (.int .i64 g1)=wC at*;clear c3 lt fz hw;obtain⟨PG,hPG⟩:∃PG,PG=(SB.fr at').2:=⟨_,rfl⟩;have HPG:=Hd hPG;have c0:wC.cell? ⟨lb,0,none⟩=some (.int .i64 SB.k):=H1.out.ce 0 (by omega);have c1:wC.cell? ⟨lb,1,none⟩=some (.int .i64 SB.near):=H1.out.ce 1 (by omega);have c3:wC.cell? ⟨lb,3,none⟩=some (.int .i64 g1):=by rw[HG1.out];exact H1.out.ce 3 (by omega)
  have c5:wC.cell? ⟨lb,5,none⟩=some (.map (some mb)):=H1.out.ce 5 (by omega);have pgc:wC.cell? ⟨fb,at'*2+1,none⟩=some (.int .u32 (PG:Nat)):=by rw[hPG];exact H1.out.page HA.out
  have lt:=H1.out.blk.lt;have lf:=H1.out.frs.lt;have hpk:okN PG:=by rw[hPG];exact HB.out.ok.fr at'
  have HD:=Hd (H1.out.fr0 ((Fr.refl NoF wC).drew));have hwf:=nV hpk;have hlk:(Instr.lookup 131 (.map (some mb)) (.int .u32 (PG:Nat)) false).run prog wC.drew=.ok (bJ (pastOf SB PG).1 (pastOf SB PG).2) wC.drew:=HD.out.look hpk;have hpo:=HB.out.pastok PG;have HT:Hid (∀W,Fr NoF wC W->Calls prog 185 #[bJ (pastOf SB PG).1 (pastOf SB PG).2,.int .i64 g1,.int .i64 SB.near,.int .i64 SB.k] W λe w'=>e=.returned (bJ g1 (cG (pastOf SB PG).1 (pastOf SB PG).2 g1 SB.near SB.k))/\Fr NoF wC w'):=λW fW=>(qr _ _ _ _ _ HB.out.ok.k1 ⟨hpo.1,by rw[HG1.out];omega,by rw[HG1.out];have:=HTB.out;omega⟩ hpo.2.2).mono λe w' ⟨he,hf⟩=>⟨he,fW.trans hf (λ_ q=>q.elim)⟩
  clear hpo hPG;have HPK:=Hd hpk;clear hpk;generalize hpv:bJ (pastOf SB PG).1 (pastOf SB PG).2=pv at*;have HPV:=Hd hpv;clear hpv;generalize htv:bJ g1 (cG (pastOf SB PG).1 (pastOf SB PG).2 g1 SB.near SB.k)=tv at HT;have HTV2:=Hd htv;clear htv
  have HC:Hid (∀W,Fr (λi=>i=mb) wC W->W.cell? ⟨lb,0,none⟩=some (.int .i64 SB.k)/\W.cell? ⟨lb,1,none⟩=some (.int .i64 SB.near)/\W.cell? ⟨lb,3,none⟩=some (.int .i64 g1)/\W.cell? ⟨lb,5,none⟩=some (.map (some mb))/\W.cell? ⟨fb,at'*2+1,none⟩=some (.int .u32 (PG:Nat))):=λW f=>
   ⟨(f.cell (p:=⟨lb,0,none⟩) H1.out.blk.lt (λq=>H1.out.d2 q.symm)).trans c0,(f.cell (p:=⟨lb,1,none⟩) H1.out.blk.lt (λq=>H1.out.d2 q.symm)).trans c1,(f.cell (p:=⟨lb,3,none⟩) H1.out.blk.lt (λq=>H1.out.d2 q.symm)).trans c3,(f.cell (p:=⟨lb,5,none⟩) H1.out.blk.lt (λq=>H1.out.d2 q.symm)).trans c5,(f.cell (p:=⟨fb,at'*2+1,none⟩) H1.out.frs.lt (λq=>H1.out.d3 q.symm)).trans pgc⟩
  have hmx:ne<1000000:=by have:=HB.out.ne;have:=HTB.out;omega
  have HMX:=Hd hmx;clear hmx
  go_region_held3(λw'=>w'.cell? ⟨lb,0,none⟩=some (.int .i64 SB.k)/\w'.cell? ⟨lb,1,none⟩=some (.int .i64 SB.near)/\w'.cell? ⟨lb,3,none⟩=some (.int .i64 g1)/\w'.cell? ⟨lb,5,none⟩=some (.map (some mb))/\w'.cell? ⟨fb,at'*2+1,none⟩=some (.int .u32 (PG:Nat)))
   (exact HC.out _ (by repeat(first|exact FM.out|exact FT.out.none|exact Fr.refl _ _|apply Fr.drew)))
   (first
   |(go_at_call 185;(with_reducible refine(HT.out _ (by repeat(first|exact Fr.refl NoF _|apply Fr.drew))).mono ?_);rintro e wT⟨rfl,fT⟩;obtain⟨wM,hrun,m1,m2⟩:=(H1.out.fr0 fT).mp.put_run MVp HMX.out hwf tv;have KM:=Hd m1;have KF:=Hd m2;have FT:=Hd fT;have FM:Hid (Fr (λi=>i=mb) wC wM):=fT.none.trans m2 (λ_ q=>.inl q);clear fT m1 m2))
  go_wp2_with fail
  obtain⟨ne2,h2⟩:=HB.out.touch HG1.out (H1.out.fr0 FT.out) (pg:=PG) (by rw[HTV2.out];exact KM.out) KF.out;have hfM:=(HFRB.out.trans HF1.out (λi q=>.inl (.inl q))).trans FM.out (λi q=>.inl (.inr (.inr (.inl q))));obtain⟨S2,hS2⟩:∃S2,S2=touS SB PG:=⟨_,rfl⟩;have e1:S2.fr=SB.fr:=by rw[hS2];rfl
  have e2:S2.n=SB.n:=by rw[hS2];rfl
  have e3:S2.T<1000000:=by rw[hS2];show SB.T+1<1000000;have:=HTB.out;omega
  have ha2:at'<S2.n:=by rw[e2];exact HA.out
  have hEA:_=dG S2 at':=eAcc.out.trans (by rw[hS2,HPG.out]);rw[<-hS2]at h2;have hpg2:(S2.fr at').2=PG:=by rw[e1];exact HPG.out.symm
  have HEA:=Hd hEA;have H2:=Hd h2;have HFM:=Hd hfM;have HE3:=Hd e3;have HA2:=Hd ha2;have HPG2:=Hd hpg2;have hat:okN at':=by have:=h2.ok.n1;unfold okN;omega
  have HAT:=Hd hat;have HH:=Hd (BD h2.cc hat);clear c0 c1 c3 c5 pgc lt lf hlk hwf hrun HT HC KM KF FT FM HB H1 HTV2 HPV HFRB hS2 e1 e2 e3 ha2 hEA h2 hpg2 hat hfM HG1 HTB HF1 HPG eAcc;refine HH.out.mono ?_;rintro e wN⟨rfl,fN⟩;have h3:=H2.out.fr0 fN;have H3:=Hd h3;have HFN:=Hd (HFM.out.trans fN (λ_ q=>q.elim));have pgc:wN.cell? ⟨fb,at'*2+1,none⟩=some (.int .u32 (PG:Nat)):=by rw[<-HPG2.out];exact h3.page HA2.out
  have lt:=h3.blk.lt;have lf:=h3.frs.lt;clear h3 fN HH
  cases hR:(S2.R at').isSome with
  |false=>
   have HR:=Hd hR;clear hR;go_wp2;go_returns;rw[HEA.out];unfold dG;rw[if_neg (by rw[HR.out];simp)];exact⟨rfl,ne2,FC,F4,H3.out,HFN.out,λi q=>.inl q,HGB.out⟩
  |true=>
   have HR:=Hd hR;clear hR;obtain⟨r1,r2,HRK,HCR,HC2,HP⟩:=qJ H3.out HPG2.out.symm HPK.out HA2.out HE3.out HAT.out HR.out
   go_wp2_with fail
   go_region_held3(λw'=>w'.cell? ⟨fb,at'*2+1,none⟩=some (.int .u32 (PG:Nat)))
    (first|exact HPP.out|exact(HC2.out _ (by repeat(first|exact FR.out|exact Fr.refl NoF _|apply Fr.drew))).2)
    (first
    |(go_at_call 188;(with_reducible refine(HCR.out _ (by repeat(first|exact Fr.refl NoF _|apply Fr.drew))).mono ?_);rintro e wR⟨rfl,fR⟩;have FR:=Hd fR;clear fR)
    |(go_at_call 187;(with_reducible refine(HP.out _ (by repeat(first|exact FR.out|apply Fr.drew))).mono ?_);rintro e wP⟨rfl,FC',h6,fP,hFC,-,hpp⟩;have HPP:=Hd hpp;have H6:=Hd h6;have FP:=Hd fP;have HFC:=Hd hFC;clear h6 fP hFC hpp))
   go_wp2;go_returns;rw[HEA.out];unfold dG;rw[if_pos HR.out,HPG2.out];exact⟨rfl,ne2,FC',F4,by rw[HRK.out];exact H6.out,HFN.out.trans FP.out (λi q=>.inl (.inr (.inr (.inr (.inl q))))),λi q=>(HFC.out i q).elim .inl (λz=>.inr (Nat.le_trans HFN.out.size z)),HGB.out⟩
end
def setS(S:LK)(at':Nat)(on:Bool):LK:=
 if(S.R at').isSome=on then S
 else if on then{S with R:=updKK S.R at' (some (bY S (S.fr at').2)),Fa:=updB1 S.Fa at' false,t:=S.t+1}
 else{S with R:=updKK S.R at' none,t:=S.t-1}
def remvS(S:LK)(at':Nat):LK:=
 {S with fr:=dd S.fr at' (false,(S.fr at').2),R:=updKK S.R at' none,t:=lessN S.t (S.R at').isSome,P:=gO S.P (S.fr at').2 none}
section
variable{w w':World}{lb fb mb q1 q2 q3 q4 ne:Nat}{S:LK}{FC F4:Nat->Prop}
theorem sR(h:LM w lb S fb mb q1 q2 q3 q4 ne FC F4){at':Nat}(ha:at'<S.n)(hfu:(S.fr at').1=true)(hT:S.T<1000000)(on:Bool):Calls prog 180 #[.pointer (some ⟨lb,0,none⟩),.int .i64 at',.bool on] w λe w'=>e=.returned (.tuple #[])/\∃FC',LM w' lb (setS S at' on) fb mb q1 q2 q3 q4 ne FC' F4/\Fr (LFK lb fb mb FC F4) w w'/\(∀i,FC' i->FC i\/w.heap.size<=i):=by
 have hat:okN at':=by have:=h.ok.n1;unfold okN;omega
 have HI:=Hd (kS h ha);rw[hfu]at HI;have HH:=Hd (BD h.cc hat);have H0:=Hd h;have HA:Hid (at'<S.n):=ha;have HAT:=Hd hat;have lt:=h.blk.lt;have HT:=Hd hT;have HPK:=Hd (h.ok.fr at');obtain⟨PG,hPG⟩:∃PG,PG=(S.fr at').2:=⟨_,rfl⟩;rw[<-hPG]at HPK;have HPG:=Hd hPG;clear h hat hfu hT ha hPG
 cases hR:(S.R at').isSome with
 |false=>
  have HR:=Hd hR;rw[hR]at HH;clear hR
  cases on with
  |false=>
   have HS:Hid (setS S at' false=S):=by unfold Hid setS;rw[if_pos HR.out]
   go_enter func180,ntmps180
   go_wp2_with fail
   refine HI.out.mono ?_;rintro e w1⟨rfl,rfl⟩
   go_wp2_with fail
   refine HH.out.mono ?_;rintro e w1⟨rfl,f1⟩;have HF1:=Hd f1;clear f1;go_wp2;go_returns;rw[HS.out];exact⟨rfl,FC,H0.out.fr0 HF1.out,HF1.out.none,λi q=>.inl q⟩
  |true=>
   have HS:Hid (setS S at' true={S with R:=updKK S.R at' (some (bY S PG)),Fa:=updB1 S.Fa at' false,t:=S.t+1}):=by unfold Hid setS;rw[if_neg (by rw[HR.out];simp),if_pos rfl,HPG.out]
   have ha1:(at':Int)<S.n:=by have:=HA.out;omega
   have ha0:0<=(at':Int):=by omega
   go_enter func180,ntmps180
   go_wp2_with fail
   refine HI.out.mono ?_;rintro e w1⟨rfl,rfl⟩
   go_wp2_with fail
   refine HH.out.mono ?_;rintro e wN⟨rfl,fN⟩;have h3:=H0.out.fr0 fN;have H3:=Hd h3;have HFN:Hid (Fr (LFK lb fb mb FC F4) w wN):=fN.none;have c4:wN.cell? ⟨lb,4,none⟩=some (.slice (some ⟨fb,0,none⟩) S.n S.n):=h3.ce 4 (by omega);have pgc:wN.cell? ⟨fb,at'*2+1,none⟩=some (.int .u32 (PG:Nat)):=by rw[HPG.out];exact h3.page HA.out
   have lt:=h3.blk.lt;have lf:=h3.frs.lt;clear h3 fN HH HI;obtain⟨r1,r2,HRK,HCR,HC2,HP⟩:=qJ H3.out HPG.out HPK.out HA.out HT.out HAT.out HR.out
   go_wp2_with fail
   go_region_held3(λw'=>w'.cell? ⟨lb,4,none⟩=some (.slice (some ⟨fb,0,none⟩) S.n S.n)/\w'.cell? ⟨fb,at'*2+1,none⟩=some (.int .u32 (PG:Nat)))
    (first|exact HPP.out|exact HC2.out _ (by repeat(first|exact FR.out|exact Fr.refl NoF _|apply Fr.drew)))
    (first
    |(go_at_call 188;(with_reducible refine(HCR.out _ (by repeat(first|exact Fr.refl NoF _|apply Fr.drew))).mono ?_);rintro e wR⟨rfl,fR⟩;have FR:=Hd fR;clear fR)
    |(go_at_call 187;(with_reducible refine(HP.out _ (by repeat(first|exact FR.out|apply Fr.drew))).mono ?_);rintro e wP⟨rfl,FC',h6,fP,hFC,hpp⟩;have HPP:=Hd hpp;have H6:=Hd h6;have FP:=Hd fP;have HFC:=Hd hFC;clear h6 fP hFC hpp))
   go_wp2;go_returns;rw[HS.out];exact⟨rfl,FC',by rw[HRK.out];exact H6.out,HFN.out.trans FP.out (λi q=>.inl (.inr (.inr (.inr (.inl q))))),λi q=>(HFC.out i q).elim .inl (λz=>.inr (Nat.le_trans HFN.out.size z))⟩
 |true=>
  have HR:=Hd hR;rw[hR]at HH;clear hR
  cases on with
  |true=>
   have HS:Hid (setS S at' true=S):=by unfold Hid setS;rw[if_pos HR.out]
   go_enter func180,ntmps180
   go_wp2_with fail
   refine HI.out.mono ?_;rintro e w1⟨rfl,rfl⟩
   go_wp2_with fail
   refine HH.out.mono ?_;rintro e w1⟨rfl,f1⟩;have HF1:=Hd f1;clear f1;go_wp2;go_returns;rw[HS.out];exact⟨rfl,FC,H0.out.fr0 HF1.out,HF1.out.none,λi q=>.inl q⟩
  |false=>
   have HS:Hid (setS S at' false={S with R:=updKK S.R at' none,t:=S.t-1}):=by unfold Hid setS;rw[if_neg (by rw[HR.out];simp),if_neg (by simp)]
   go_enter func180,ntmps180
   go_wp2_with fail
   refine HI.out.mono ?_;rintro e w1⟨rfl,rfl⟩
   go_wp2_with fail
   refine HH.out.mono ?_;rintro e wN⟨rfl,fN⟩;have h3:=H0.out.fr0 fN;have HD:=Hd (vn h3.cc HAT.out);have H3:=Hd h3;have HFN:=Hd fN;have lt:=h3.blk.lt;clear h3 fN HH HI
   go_wp2_with fail
   refine HD.out.mono ?_;rintro e w2⟨rfl,hc,f2⟩;rw[HR.out]at hc;have h4:=H3.out.newCC hc f2 (λi q=>.inl q) (by rw[cX _ HA.out,HR.out,<-H3.out.ok.tn]);have H4:=Hd h4;have HF2:=Hd f2;clear h4 hc f2;go_wp2;go_returns;rw[HS.out];exact⟨rfl,FC,H4.out,HFN.out.none.trans HF2.out (λi q=>.inl (.inr (.inr (.inr (.inl q))))),λi q=>.inl q⟩
end
def vicS(S:LK)(x:Nat)(Fb:Nat->Bool):LK:=
 yg {S with Fa:=Fb,fr:=dd S.fr x (false,(S.fr x).2),R:=updKK S.R x none,t:=S.t-1} (S.fr x).2
theorem bj.some{R:Nat->Option (Int×Int)}{Fb:Nat->Bool}{x:Nat}(h:bj R Fb x):(R x).isSome=true:=by
 rcases h with⟨a,b,h,_⟩|⟨_,a,b,h,_⟩
 .unfold farK at h
  split at h
  .rw[h];rfl
  .cases h
 .exact(by rw[(ud h).2];rfl)
section
variable{w w':World}{lb fb mb q1 q2 q3 q4 ne:Nat}{S:LK}{FC F4:Nat->Prop}
theorem rJ(h:LM w lb S fb mb q1 q2 q3 q4 ne FC F4)(h0:S.t=0)(page:Int):Calls prog 182 #[.pointer (some ⟨lb,0,none⟩),.int .u32 page] w λe w'=>e=.returned (.tuple #[.int .i64 0,.bool false])/\Fr NoF w w':=by
 have HS:=Hd (jL h);rw[h0]at HS;clear h;go_enter func182,ntmps182
 go_wp2_with fail
 refine HS.out.mono ?_;rintro e w1⟨rfl,f1⟩;go_wp2;go_returns;exact⟨rfl,f1⟩
theorem re(h:LM w lb S fb mb q1 q2 q3 q4 ne FC F4)(h0:0<S.t)(page:Int)(hT:S.T<1000000)(hg:S.gone<800000)(hdom:∀x,(S.R x).isSome=true->x<S.n/\bb S.Old (S.fr x).2=none):Calls prog 182 #[.pointer (some ⟨lb,0,none⟩),.int .u32 page] w λe w'=>∃x:Nat,e=.returned (.tuple #[.int .i64 x,.bool true])/\∃Fb ne' FC' F4',mj S.R S.Fa Fb ((S.T:Int)-S.near)/\bj S.R Fb x/\LM w' lb (vicS S x Fb) fb mb q1 q2 q3 q4 ne' FC' F4'/\Fr (LFK lb fb mb FC F4) w w'/\(∀i,FC' i->FC i\/w.heap.size<=i)/\∀i,F4' i->F4 i\/w.heap.size<=i:=by
 have HS:=Hd (jL h);have hz:((S.t:Int)==0)=false:=by simp;omega
 have H0:=Hd h;have HDOM:=Hd hdom;have HG:=Hd hg;have HPOS:=Hd h0;have lt:=h.blk.lt;obtain⟨u,hu⟩:∃u:Int,u=(S.T:Int)-S.near:=⟨_,rfl⟩;have hw:IntKind.i64.wrap ((S.T:Int)-S.near)=u:=by rw[hu];exact IntWalk.i64_in _ (by have:=h.ok.near;omega)
 rw[<-hu];have HU:=Hd hu;clear hu;have hz2:(S.t==0)=false:=by simp;omega
 clear h hdom hg h0 hT;go_enter func182,ntmps182
 go_wp2_with fail
 refine HS.out.mono ?_;rintro e wN⟨rfl,fN⟩;have h3:=H0.out.fr0 fN;have H3:=Hd h3;have HFN:Hid (Fr (LFK lb fb mb FC F4) w wN):=fN.none;have c1:wN.cell? ⟨lb,1,none⟩=some (.int .i64 S.near):=h3.ce 1 (by omega);have c3:wN.cell? ⟨lb,3,none⟩=some (.int .i64 S.T):=h3.ce 3 (by omega);have lt:=h3.blk.lt;clear h3 fN HS;have HC2:Hid (∀W,Fr NoF wN W->W.cell? ⟨lb,1,none⟩=some (.int .i64 S.near)/\W.cell? ⟨lb,3,none⟩=some (.int .i64 S.T)):=λW f=>⟨(H3.out.fr0 f).ce 1 (by omega),(H3.out.fr0 f).ce 3 (by omega)⟩
 have HL:Hid (∀W,Fr NoF wN W->Calls prog 192 #[.pointer (some ⟨lb,6,none⟩),.int .i64 u] W λe w'=>∃x:Nat,e=.returned (.tuple #[.int .i64 x,.bool true])/\∃Fb FC',mj S.R S.Fa Fb u/\bj S.R Fb x/\LM w' lb {S with Fa:=Fb} fb mb q1 q2 q3 q4 ne FC' F4/\Fr FC wN w'/\(∀i,FC' i->FC i\/wN.heap.size<=i)/\w'.cell? ⟨lb,1,none⟩=some (.int .i64 S.near)/\w'.cell? ⟨lb,3,none⟩=some (.int .i64 S.T)):=λW f=>by
  have h5:=H3.out.fr0 f;refine(Bp h5.cc (by have:=h5.ok.tle;have:=h5.ok.n1;omega) HPOS.out u).mono ?_;rintro e wP⟨x,he,Fb,FC',hc,hag,hl,fP,hFC⟩;have h6:=h5.newCC hc fP hFC H3.out.ok.tn;exact⟨x,he,Fb,FC',hag,hl,h6,f.none.trans fP (λi q=>.inl q),λi q=>(hFC i q).elim .inl (λz=>.inr (Nat.le_trans f.size z)),h6.ce 1 (by omega),h6.ce 3 (by omega)⟩
 go_wp2_with fail
 go_region_held3(λw'=>w'.cell? ⟨lb,1,none⟩=some (.int .i64 S.near)/\w'.cell? ⟨lb,3,none⟩=some (.int .i64 S.T))
  (first|exact HPP.out|exact HC2.out _ (by repeat(first|exact Fr.refl NoF _|apply Fr.drew)))
  (first
  |(go_at_call 192;(with_reducible refine(HL.out _ (by repeat(first|exact Fr.refl NoF _|apply Fr.drew))).mono ?_);rintro e wP⟨x,rfl,Fb,FC',hag,hl,h6,fP,hFC,hpp⟩;have HPP:=Hd hpp;have H6:=Hd h6;have FP:=Hd fP;have HFC:=Hd hFC;have HAG:=Hd hag;have HLC:=Hd hl;clear h6 fP hFC hpp hag hl))
 have hsome:=HLC.out.some;obtain⟨hx,hold⟩:=HDOM.out x hsome;have HE:=Hd (ik H6.out (at':=x) hx);have HXN:=Hd hx;have HOLD:=Hd hold;have HSM:=Hd hsome;have HF6:Hid (Fr (LFK lb fb mb FC F4) w wP):=HFN.out.trans FP.out (λi q=>.inl (.inr (.inr (.inr (.inl q)))));have HFC2:Hid (∀i,FC' i->FC i\/w.heap.size<=i):=λi q=>(HFC.out i q).elim .inl (λz=>.inr (Nat.le_trans HFN.out.size z))
 clear HL HC2 c1 c3 lt hx hold hsome
 go_wp2_with fail
 refine HE.out.mono ?_;rintro e wE⟨rfl,h7,f7⟩;have e7:lessN S.t (S.R x).isSome=S.t-1:=by rw[HSM.out];rfl
 have h8:LM wE lb {S with Fa:=Fb,fr:=dd S.fr x (false,(S.fr x).2),R:=updKK S.R x none,t:=S.t-1} fb mb q1 q2 q3 q4 ne FC' F4:=by rw[<-e7];exact h7
 have H8:=Hd h8;have c4:wE.cell? ⟨lb,4,none⟩=some (.slice (some ⟨fb,0,none⟩) S.n S.n):=h8.ce 4 (by omega)
 have pgc:wE.cell? ⟨fb,x*2+1,none⟩=some (.int .u32 ((S.fr x).2:Nat)):=by
  have:=h8.page (at':=x) HXN.out;rw[show((dd S.fr x (false,(S.fr x).2)) x).2=(S.fr x).2 from by rw[dc]]at this;exact this
 have HRM:Hid (Calls prog 193 #[.pointer (some ⟨lb,0,none⟩),.int .u32 ((S.fr x).2:Nat)] wE λe w'=>e=.returned (.tuple #[])/\∃ne' F4',LM w' lb (vicS S x Fb) fb mb q1 q2 q3 q4 ne' FC' F4'/\Fr (LFK lb fb mb FC' F4) wE w'/\∀i,F4' i->F4 i\/wE.heap.size<=i):=kW h8 (H0.out.ok.fr x) HOLD.out HG.out;have lt:=h8.blk.lt;have lf:=h8.frs.lt;have hx1:(x:Int)<S.n:=by have:=HXN.out;omega
 have hx0:0<=(x:Int):=by omega
 have HF8:Hid (Fr (LFK lb fb mb FC F4) w wE):=HF6.out.trans f7 (λi q=>by
  rcases q with q|q
  .exact .inl (.inr (.inl q))
  .exact(HFC2.out i q).elim (λz=>.inl (.inr (.inr (.inr (.inl z))))) .inr)
 clear h8 h7 f7 e7 HE;generalize hpg:(S.fr x).2=PG at pgc HRM;clear hpg
 go_wp2_with fail
 refine HRM.out.mono ?_;rintro e wR⟨rfl,ne',F4',h9,f9,hF4⟩;have H9:=Hd h9;have HF9:=Hd f9;have HF4:=Hd hF4;clear h9 f9 hF4;go_wp2;go_returns;refine⟨x,rfl,Fb,ne',FC',F4',HAG.out,HLC.out,H9.out,HF8.out.trans HF9.out (λi q=>?_),HFC2.out,λi q=>(HF4.out i q).elim .inl (λz=>.inr (Nat.le_trans HF8.out.size z))⟩;rcases q with q|q|q|q|q
 .exact .inl (.inl q)
 .exact .inl (.inr (.inl q))
 .exact .inl (.inr (.inr (.inl q)))
 .exact(HFC2.out i q).elim (λz=>.inl (.inr (.inr (.inr (.inl z))))) .inr
 .exact .inl (.inr (.inr (.inr (.inr q))))
end
end
end Go.Proofs.YtoenclhimbpfeaaGreatDoor
