/-
  ModelPools: a pool, of whichever policy, or advice, answers just as the Model: the row, and its card. No condition of its own; the library's table of trailing zeros (math/bits.deBruijn64tab) is as its initialiser lays it: the card ties it to the program's text.
-/
import Derived.Test.YtkjhnllcphidpaaGreatDoorM45
import Derived.Test.YtkjhnllcphidpaaGreatDoorM50
import Derived.Test.YtkjhnllcphidpaaGreatDoorCards
import Derived.Deep.Strs
namespace Go.Proofs.YtkjhnllcphidpaaGreatDoor
set_option linter.all false
set_option maxHeartbeats 16000000
set_option maxRecDepth 100000
section
open Go.Maps Go.Proofs.Tryz Go.RowKit
def GRm(r n room:Nat)(l:List Pg)(w:World)(G:Nat->Prop):Prop:=∃lv,RG w r n room l lv/\∀i,G i↔GFr r lv i
theorem rR{r n room:Nat}{l:List Pg}:Frm (GRm r n room l) where
 lt:=λ⟨lv,h,k⟩ i q=>h.lt i ((k i).1 q)
 fro:=λ⟨lv,h,k⟩ f hG _=>⟨lv,h.fr f (λi q=>hG i ((k i).2 q)),k⟩
section
variable{p:PP}{q:Bool}{M M':AM}{m n room c r:Nat}{l l':List Pg}{w w0 w':World}{F:Nat->Prop}{o:OpF}
theorem CK{E I V:Int}(hs:nS n room l o.k o.id o.v E I V l')(h:GRm r n room l w F):Calls prog 14 #[.pointer (some ⟨r,0,none⟩),o.val] w λe w'=>e=.returned (.agg #[.int .i64 E,.int .u32 I,.int .u64 V])/\Led (GRm r n room l') F w w':=by
 obtain⟨lv,h,k⟩:=h;refine(hs w r lv h).mono ?_;rintro e w'⟨he,⟨lv',h1,h2⟩,f⟩;exact⟨he,GFr r lv',⟨lv',h1,λi=>Iff.rfl⟩,f.mono (λi q=>(k i).2 q),λi q=>(h2 i q).imp (k i).2 id⟩
def PMm(p:PP)(q:Bool)(n room r:Nat)(w0:World)(c:Nat)(w:World):Prop:=∃M l,Duo (an p q M (1000+100*c)) (GRm r n room l) w0 w/\PSm n room c l/\AML M room l
theorem PMm.fin(h:PMm p q n room r w0 c w):Fr NoF w0 w:=by
 obtain⟨M,l,h1,h2,h3⟩:=h;exact h1.fin
def PHm(p:PP)(q:Bool)(n room r:Nat)(w0:World)(c:Nat)(o:OpF)(a:AnF)(w:World):Prop:=∃M l l',Duo (an p q M (1000+100*(c+1))) (GRm r n room l) w0 w/\PSm n room (c+1) l'/\AML M room l'/\nS n room l o.k o.id o.v a.e a.id a.v l'
theorem PHm.fr0{a:AnF}(h:PHm p q n room r w0 c o a w)(f:Fr NoF w w'):PHm p q n room r w0 c o a w':=by
 obtain⟨M,l,l',h1,h2,h3,h4⟩:=h;exact⟨M,l,l',h1.frm sH rR f,h2,h3,h4⟩
theorem PHm.fin{a:AnF}(h:PHm p q n room r w0 c o a w):Fr NoF w0 w:=by
 obtain⟨M,l,l',h1,h2,h3,h4⟩:=h;exact h1.fin
theorem BI(hpn:p.n=n)(hn:n<=64)(hc:c<500)(ho:o.ok)(h:PMm p q n room r w0 c w):
  ∃a:AnF,(∀W,Fr NoF w W->Calls prog 12 #[p.ptr,o.val] W λe W'=>e=.returned a.val/\PHm p q n room r w0 c o a W')/\
   ∀W,PHm p q n room r w0 c o a W->Calls prog 14 #[.pointer (some ⟨r,0,none⟩),o.val] W λe W'=>e=.returned a.val/\PMm p q n room r w0 (c+1) W':=by
 obtain⟨M,l,D,P,A⟩:=h;obtain⟨l',P',A',hs⟩:=Ca P A (by omega) (by omega) o ho;subst hpn;refine⟨(M.call p.n o).1,λW f=>?_,?_⟩
 .have D':=D.frm sH rR f
  have ht:=D'.tab;refine(Duo.left (R1':=an p q (M.call p.n o).2 (1000+100*c+100)) rR D' (λF h=>(yD (m:=1000+100*c) h (by omega) (by omega) ho ht))).mono ?_;rintro e W'⟨he,k⟩;exact⟨he,_,l,l',by rw[show 1000+100*(c+1)=1000+100*c+100 by omega];exact k,P',A',hs⟩
 .rintro W⟨M1,l1,l2,D1,P1,A1,h1⟩
  refine(Duo.right sH D1 (λF h=>CK h1 h)).mono ?_;rintro e W'⟨he,k⟩;exact⟨he,M1,l2,k,P1,A1⟩
end
theorem tq(a0 a1 a2:Int)(v av:Value)(L:List OpF)(l:List Int)(w:World)(hv:ArgP w v L)(ha:SlZ w av l)(hT:cJ w):Calls prog 3 #[.agg #[.int .i64 a0,.int .i64 a1,.int .i64 a2],v,av] w λe w'=>e=.returned (.bool true)/\Fr NoF w w':=by
 obtain⟨oa,oc,rfl,q1,q2⟩:=SlC.shape hv.1;obtain⟨aa,ac,rfl,p1,p2⟩:=SlC.shape ha;unfold maxLen at q2 p2;have HOK:=Hd hv.2;have HOP:=Hd hv.1;have HAD:=Hd ha;have HT:=Hd hT;clear hv ha hT;obtain⟨n,hn1,hn2,en⟩:=C6 a0 (k:=6) (by decide) (by decide);obtain⟨m,hm1,hm2,em⟩:=C6 a1 (k:=12) (by decide) (by decide);obtain⟨ka,hka,ea⟩:=E8 a2 (k:=6) (by decide) (by decide);have HN:Hid (1<=n/\n<=6):=⟨by omega,by omega⟩;go_enter func3,ntmps3
 go_wp2_with fail
 go_quiet (fail)
 rw[en,em,ea];clear en em ea
 go_wp2_with fail
 have f0:Hid (Fr NoF w ((w.alloc (.cells #[.int .i64 a0,.int .i64 a1,.int .i64 a2] 22)).drewN nq)):=((Fr.refl NoF w).alloc _).drewN nq;refine(DF m _ (by omega) (by omega)).mono ?_;rintro e w1⟨db,FD,rfl,d1,d2,d3⟩;have D1:=Hd d1;have D2:Hid (∀i,FD i->w.heap.size<=i):=λi q=>Nat.le_trans f0.out.size (d2 i q)
 have F1:=Hd (f0.out.trans d3 (λ_ q=>q.elim));clear d1 d2 d3 f0
 go_wp2_with fail
 refine(pC (HT.out.fr0 F1.out)).mono ?_;rintro e w2⟨rfl,f2⟩;have F2:=Hd (F1.out.trans f2 (λ_ q=>q.elim));have D3:=Hd (D1.out.fr0 f2);clear f2 F1 D1
 go_wp2_with fail
 refine(qj ka (by omega) _ HN.out).mono ?_;rintro e w3⟨rfl,f2⟩;have F3:=Hd (F2.out.trans f2 (λ_ q=>q.elim));have D4:=Hd (D3.out.fr0 f2);clear f2 F2 D3
 go_wp2_with fail
 have HK:Hid ((min (l.length:Int) 200).toNat<=l.length/\(min (l.length:Int) 200).toNat<=200):=⟨by omega,by omega⟩;generalize(min (l.length:Int) 200).toNat=k at*;have HA2:=Hd (HAD.out.cut k HK.out.1);have hlk:(l.take k).length=k:=by rw[List.length_take];have:=HK.out.1;omega
 have hl2:(l.take k).length<=65535:=by have:=HK.out.2;omega
 generalize l.take k=L2 at*;subst hlk;clear HAD HK p1;refine(oT ka (by omega) _ HN.out (HA2.out.keep F3.out) hl2).mono ?_;rintro e w4⟨rv,rfl,FA,a1,a2,a3⟩;have F4:=Hd (F3.out.trans a3 (λ_ q=>q.elim));have HNW:=Hd (A0 (n:=n) (D4.out.fr0 a3) (by omega) a1 (λi q k=>by have:=D4.out.lt i q;have:=a2 i k;omega) (HT.out.fr0 F4.out) ⟨λq=>by have:=D2.out _ q;have:=HT.out.lt;omega,λq=>by have:=a2 _ q;have:=HT.out.lt;have:=F3.out.size;omega⟩ ⟨by omega,by omega⟩ (by omega));have A2:Hid (∀i,FA i->w.heap.size<=i):=λi q=>Nat.le_trans F3.out.size (a2 i q)
 clear a1 a2 a3 HA2 D4
 go_wp2_with fail
 refine HNW.out.mono ?_;rintro e w5⟨p,k1,k2,k3,rfl,⟨F,k4,k5⟩,k6⟩;clear HNW k2 k3;have K1:=Hd k1
 have H5:Hid (an p (decide (ka<5)) (am0 m) 1000 w5 F/\(∀i,F i->w.heap.size<=i)/\Fr NoF w w5):=⟨k4,λi q=>by
  rcases k5 i q with c|c|c
  .exact D2.out i c
  .exact A2.out i c
  .have:=F4.out.size;omega,F4.out.trans k6 (λ_ q=>q.elim)⟩
 clear k1 k4 k5 k6 D2 A2 F3 F4;unfold PP.ptr
 go_wp2_with fail
 have HE0:Hid (PMm p (decide (ka<5)) n m w5.heap.size w 0 (w5.alloc (.cells #[.int .i64 n,.int .i64 m,.slice none 0 0] 41))):=by
  obtain⟨k1,k2,k3⟩:=H5.out;have hlt:=k1.lt;have hs:=k3.size;have f:Fr NoF w5 (w5.alloc (.cells #[.int .i64 n,.int .i64 m,.slice none 0 0] 41)):=(Fr.refl NoF w5).alloc _;refine⟨am0 m,[],⟨HT.out.lt,F,GFr w5.heap.size (.slice none 0 0),k1.fr0 f,⟨_,⟨Blk.new _ _ _ _ _ _ rfl rfl (λi hi=>?_),SlF.nil _ _ _ _,λi q=>(by cases q),⟨by simp,by omega,by omega⟩,λp hp=>(by cases hp)⟩,λi=>Iff.rfl⟩,λi q c=>?_,λi c=>?_,k3.trans f (λ_ q=>q.elim)⟩,⟨List.Pairwise.nil,λp hp=>(by cases hp),Nat.zero_le _,Nat.zero_le _,λp hp=>(by cases hp)⟩,⟨rfl,λp hp=>(by cases hp),λp hp=>(by cases hp),rfl⟩⟩
  .match i,hi with
   |0,_=>rfl
   |1,_=>rfl
   |2,_=>rfl
  .rcases c with c|c
   .have:=hlt i q;omega
   .cases c
  .rcases c with c|c|c
   .exact k2 i c
   .omega
   .cases c
 clear H5;generalize(w5.alloc (.cells #[.int .i64 n,.int .i64 m,.slice none 0 0] 41))=w6 at*;generalize w5.heap.size=r at*
 go_loopw [15] (λi wr=>∃j:Nat,j<=L.length/\i=.int .i64 j/\j<=200/\PMm p (decide (ka<5)) n m r w j wr) (λi _=>L.length-(intOf i).toNat)
 case atStart=>exact⟨0,Nat.zero_le _,rfl,Nat.zero_le _,HE0.out⟩
 case round=>
  obtain⟨j,hj,rfl,hj2,hE⟩:=hrel;have HE:=Hd hE;have HF0:=Hd hE.fin;clear hE HE0;by_cases hgo:j<L.length/\j<200
  .obtain⟨hlt,h200⟩:=hgo
   obtain⟨xb,xo,xc,hx,hx1,hx2,hxb,hcell⟩:=HOP.out.at hlt (by omega);simp only[Value.slice.injEq]at hx;obtain⟨rfl,_,rfl⟩:=hx;obtain⟨g0,g1,g2⟩:=vi L hlt;have HU:=HOK.out L[j] (List.getElem_mem hlt)
   have HCZ:Hid (∀W,Fr NoF w W->W.cell? ⟨xb,xo+j*3,none⟩=some (.int .i64 L[j].k)/\W.cell? ⟨xb,xo+j*3+1,none⟩=some (.int .u32 (L[j].id:Nat))/\W.cell? ⟨xb,xo+j*3+2,none⟩=some (.int .u64 (L[j].v:Nat))):=by
    intro W f;exact⟨by rw[f.cell (p:=⟨xb,xo+j*3,none⟩) hxb id];exact hcell _ _ g0,by rw[f.cell (p:=⟨xb,xo+j*3+1,none⟩) hxb id];exact hcell _ _ g1,by rw[f.cell (p:=⟨xb,xo+j*3+2,none⟩) hxb id];exact hcell _ _ g2⟩
   obtain⟨a,hC,hR⟩:=BI K1.out (by omega) (by omega) HU HE.out;clear hcell g0 g1 g2;generalize L[j]=z at HCZ hC hR HU;obtain⟨zk,zi,zx⟩:=z;obtain⟨E,I,V⟩:=a;unfold OpF.val AnF.val at hC hR;unfold PP.ptr at hC;simp only at HCZ hC hR HU;have HC:=Hd hC;have HR:=Hd hR;clear HU hC hR;obtain⟨c0,c1,c2⟩:=HCZ.out _ HF0.out;have hxw:=Nat.lt_of_lt_of_le hxb HF0.out.size
   go_wp2_with fail
   go_region_held3(λw'=>w'.cell? ⟨xb,xo+j*3,none⟩=some (.int .i64 zk)/\w'.cell? ⟨xb,xo+j*3+1,none⟩=some (.int .u32 (zi:Nat))/\w'.cell? ⟨xb,xo+j*3+2,none⟩=some (.int .u64 (zx:Nat)))
    (first|exact HCZ.out _ (Fr.trans (F:=NoF) H7.out.fin (by repeat(first|exact Fr.refl NoF _|apply Fr.drew|apply Fr.drewN)) (λ_ q=>.inl q))|exact HCZ.out _ (Fr.trans (F:=NoF) H6.out.fin (by repeat(first|exact Fr.refl NoF _|apply Fr.drew|apply Fr.drewN)) (λ_ q=>.inl q))|exact HCZ.out _ (Fr.trans (F:=NoF) H5.out.fin (by repeat(first|exact Fr.refl NoF _|apply Fr.drew|apply Fr.drewN)) (λ_ q=>.inl q))|exact HCZ.out _ (Fr.trans (F:=NoF) (HF0.out.trans H4.out (λ_ q=>.inl q)) (by repeat(first|exact Fr.refl NoF _|apply Fr.drew|apply Fr.drewN)) (λ_ q=>.inl q))|exact HCZ.out _ (Fr.trans (F:=NoF) HF0.out (by repeat(first|exact Fr.refl NoF _|apply Fr.drew|apply Fr.drewN)) (λ_ q=>.inl q)))
    (first
     |(go_at_call 13;(with_reducible refine(xJ zk zi zx _).mono ?_);rintro e w4⟨rfl,f4⟩;have H4:Hid (Fr NoF wr w4):=Fr.trans (F:=NoF) (by repeat(first|exact Fr.refl NoF _|apply Fr.drew|apply Fr.drewN)) f4 (λ_ q=>.inl q);clear f4)
     |(go_at_call 12;(with_reducible refine(HC.out _ (Fr.trans (F:=NoF) H4.out (by repeat(first|exact Fr.refl NoF _|apply Fr.drew|apply Fr.drewN)) (λ_ q=>.inl q))).mono ?_);rintro e w5⟨rfl,h5⟩;have H5:=Hd h5;clear h5)
     |(go_at_call 11;(with_reducible refine(rD E I V _).mono ?_);rintro e w6⟨rfl,f6⟩;have H6:=Hd (H5.out.fr0 (Fr.trans (F:=NoF) (by repeat(first|exact Fr.refl NoF _|apply Fr.drew|apply Fr.drewN)) f6 (λ_ q=>.inl q)));clear f6)
     |(go_at_call 14;(with_reducible refine(HR.out _ (H6.out.fr0 (by repeat(first|exact Fr.refl NoF _|apply Fr.drew|apply Fr.drewN)))).mono ?_);rintro e w7⟨rfl,h7⟩;have H7:=Hd h7;clear h7))
   all_goals
    clear HC HR H4 H5 H6 HF0;rename_i hHeld;clear hHeld
    go_wp2_with fail
    go_roundw
    case rel=>exact⟨j+1,by omega,by go_num,by omega,H7.out⟩
    case measure=>simp[intOf];omega
  .have hgo2:((j:Int)<(L.length:Int)/\decide ((j:Int)<200)=false)\/decide ((j:Int)<(L.length:Int))=false:=by
    by_cases c:j<L.length
    .exact .inl ⟨by omega,by simp;omega⟩
    .exact .inr (by simp;omega)
   obtain⟨M,pl,D,P,A⟩:=HE.out;obtain⟨_,F,G,k1,⟨lv,k2,_⟩,_,_,_⟩:=D;have KA:=Hd k1;have KG:=Hd k2;have HP:=Hd A.pin;have rc2:=k2.c2;have rlt:=k2.hd.lt;have hb1:=k2.b1.1;obtain⟨ga,gc,rfl,gl,gm⟩:=k2.hl.shape;unfold maxLen at gm;clear k1 k2 A P HE;rcases hgo2 with⟨g1,g2⟩|g1<;>go_wp2_with fail
   all_goals
    obtain⟨wo,ewo⟩:∃x,x=wr:=⟨wr,rfl⟩;subst ewo
    go_loopw [16] (λi wq=>∃k:Nat,k<=pl.length/\i=.int .i64 k/\Fr NoF wo wq) (λi _=>pl.length-(intOf i).toNat)
    case atStart=>exact⟨0,Nat.zero_le _,rfl,Fr.refl _ _⟩
    case round=>
     obtain⟨k,hk,rfl,hf⟩:=hrel;have HFQ:=Hd hf;have hr2:=(KG.out.fr0 hf).c2;have hrl:=(KG.out.fr0 hf).hd.lt;clear rc2 rlt;by_cases hlk:k<pl.length
     .obtain⟨g,cap,e1,l1,l2,l3,y0,y1,y2,_⟩:=(KG.out.fr0 hf).at hlk
      simp only[Value.slice.injEq]at e1;obtain⟨rfl,_,rfl⟩:=e1;have hid:=(KG.out.ok pl[k] (List.getElem_mem hlk)).1
      have HQ:Hid (∀W,Fr NoF wo W->Calls prog 15 #[p.ptr,.int .u32 (pl[k].id:Nat)] W λe w'=>e=.returned (.int .i64 (pl[k].pins:Nat))/\W=w'):=λW f=>by
       rw[<-HP.out pl[k] (List.getElem_mem hlk)];exact(KA.out.fr0 f).pi hid
      unfold PP.ptr at HQ;generalize pl[k]=pg at y0 y1 y2 HQ;obtain⟨pi,pv,pp⟩:=pg;simp only at y0 y1 y2 HQ;clear hid hf y1
      go_wp2_with fail
      go_quiet ((go_at_call 15;with_reducible exact qs (HQ.out _ (Fr.trans (F:=NoF) HFQ.out (by repeat(first|exact Fr.refl NoF _|apply Fr.drew|apply Fr.drewN)) (λ_ q=>.inl q)))))
      go_wp2
      go_roundw
      case rel=>exact⟨k+1,by omega,by go_num,HFQ.out.drewN _⟩
      case measure=>simp[intOf];omega
     .obtain rfl:k=pl.length:=by omega
      clear hf;go_wp2;go_returns;exact⟨rfl,HF0.out.trans HFQ.out (λ_ q=>.inl q)⟩
end
section
open Go.ChangeAt Go.ChangeShapes Go.Proofs.Tryz Go.RowKit Go.WideShapes
namespace modelPools
theorem lifted(os:Os)(started:os.Started)(H:Type)(enc:TypeId×Value->H):
  ReturnsInHanded {} Tryz.checked os 3 .any (λw args=>(Rows.modelPoolsSpec.pre enc prog Tryz.f3 Rows.modelPoolsRow.domain false w args/\laidMet prog Rows.modelPoolsRow.laid w)/\sizedMet enc prog Tryz.f3 (OpenSpec.ofChange Rows.modelPoolsSpec) false w args)
   (Rows.modelPoolsSpec.post enc prog Tryz.f3 false true false false):=by
 refine returnsInHanded_of_change_and (C:=Tryz.checked) (X:=λw _=>laidMet prog Rows.modelPoolsRow.laid w) (λ_ _ _ hh h=>h.of_heap hh) FV started (by kernel_rfl) func3
  (ChangeSpec.witness_at (enc:=enc) (C:=Tryz.checked) (os:=os) (X:=λw _=>laidMet prog Rows.modelPoolsRow.laid w) false (qu os) #[.agg #[.int .i64 0,.int .i64 0,.int .i64 0],.slice none 0 0,.slice none 0 0] 8 rfl (by kernel_rfl) (by kernel_rfl) (by kernel_rfl) (by kernel_rfl) (by kernel_rfl) (Cr os _)) ?_
 intro W base args ds gs before hval0 hW _ _ hL _;have hval:∀(j:Nat) t v,Tryz.f3.params[j]?=some t->args[j]?=some v->Value.okWide prog W .any base t v:=hval0;have hW':=hW;obtain⟨p,q,hA0,hV,rfl,hfz,hnd⟩:=hW;have hA:DataW.TrodAll enc prog W 0 (λ_=>true) true Tryz.f3.params.toList args.toList ds p:=hA0;rw[Tryz.params3]at hA hval;obtain⟨v0,vs0,d0,ds0,p0,q0,hargs,rfl,rfl,h0,r0⟩:=trodAll_cons hA;obtain⟨v1,vs1,d1,ds1,p1,q1,rfl,rfl,rfl,h1,r1⟩:=trodAll_cons r0;obtain⟨v2,vs2,d2,ds2,p2,q2,rfl,rfl,rfl,h2,r2⟩:=trodAll_cons r1;obtain⟨rfl,rfl,rfl⟩:=trodAll_nil r2;obtain rfl:args=#[v0,v1,v2]:=by cases args;simp_all
 obtain⟨rfl,rfl⟩:=trodVars_none hV;obtain⟨x0,x1,x2,rfl,rfl,rfl,w0,w0',w0''⟩:=EK (hval 0 22 v0 rfl rfl) h0;obtain⟨a1,len1,cap1,rfl⟩:=okWide_slice underlying23 (hval 1 23 v1 rfl rfl);obtain⟨a2,len2,cap2,rfl⟩:=okWide_slice underlying24 (hval 2 24 v2 rfl rfl);have hv1:∀a,a1=some a->a.spot=none/\a.block<W.heap.size:=λa e=>by subst e;exact lF underlying23 (hval 1 23 _ rfl rfl)
 have hv2:∀a,a2=some a->a.spot=none/\a.block<W.heap.size:=λa e=>by subst e;exact lF underlying24 (hval 2 24 _ rfl rfl)
 have k1:=h1;have k2:=h2;have lt1:∀x∈p1,x.block<W.heap.size:=by obtain⟨m,hm⟩:=k1;exact DataW.trod_lt m _ _ _ hm
 have lt2:∀x∈p2,x.block<W.heap.size:=by obtain⟨m,hm⟩:=k2;exact DataW.trod_lt m _ _ _ hm
 obtain⟨zs,wz⟩:∃zs,ArgP W (.slice a1 len1 cap1) zs:=by
  obtain⟨fuel,hf⟩:=h1;obtain⟨zs,k,_⟩:=BH hv1 hf;exact⟨zs,k⟩
 obtain⟨l,wl,_⟩:∃l:List Int,SlZ W (.slice a2 len2 cap2) l/\l.length=len2:=by
  obtain⟨fuel,hf⟩:=h2;exact CQ hv2 hf
 clear hA0 hval0;have hT:cJ W:=Bn hL;simp only[List.append_nil,List.nil_append]at hW';refine(tq x0 x1 x2 _ _ zs l W wz wl hT).mono λe W' ⟨he,hf⟩=>?_
 have bel:=hf.below;subst he;exact⟨_,rfl,_,_,_,[],_,[],hW',trodAll_mk1 (shut_bool underlying4 _),(trodAll_cons_mk (EN W' _ _ _ w0 w0' w0'') (trodAll_cons_mk (Below.trod qG (by kernel_rfl) (of_decide_eq_true (by kernel_rfl)) k1 bel lt1) (trodAll_cons_mk (Below.trod qG (by kernel_rfl) (of_decide_eq_true (by kernel_rfl)) k2 bel lt2) trodAll_mk0))),rfl,bel.frame _,λh=>by cases h⟩
theorem said:Rows.ModelPoolsSaid:=
 OpenClaim.holds_of_wide 3 Tryz.f3 rfl rfl rfl rfl rfl rfl rfl ⟨rfl,rfl,rfl,rfl,rfl⟩ rfl rfl rfl rfl rfl (by kernel_rfl) func3 (by kernel_rfl)
  (of_decide_eq_true (by kernel_rfl)) (by unfold Func.isWrapper;first|(rw[if_pos (by decide+kernel)];kernel_rfl)|(rw[if_neg (by decide+kernel)];exact⟨rfl,rfl⟩))
  (λos started H enc _=>lifted os started H enc)
theorem proved:Rows.ModelPoolsCardSaid:=
 Claim7.holds_tied_plain_at .later [] [.data] true (true, "5b16b7d9d07b525f472cd6f6e2ab884ca09d3cbfa683e58d2cd44a1ccdc019b9") true
  said (λ_ h=>by cases h) (by kernel_rfl) (λ_ h=>by cases h) modelPools_row_tie rfl ⟨rfl,rfl⟩ (by kernel_rfl) rfl
  (λf fn hf hfn=>by
   obtain rfl:f=3:=Option.some.inj ((show prog.funcNamed "hatcheck/hatchecklaw10.ModelPools" =some 3 by kernel_rfl).symm.trans hf)|>.symm
   obtain rfl:fn=Tryz.f3:=(Option.some.inj (func3.symm.trans hfn)).symm
   exact⟨by kernel_rfl,λj t ht=>by
    rw[Tryz.params3]at ht
    have h3:t=22\/t=23\/t=24:=by
     rcases j with _|_|_|j
     .left;simpa using ht.symm
     .right;left;simpa using ht.symm
     .right;right;simpa using ht.symm
     .simp at ht
    rcases h3 with rfl|rfl|rfl
    .exact(show prog.wantsStandIn 22=false by kernel_rfl)
    .exact(show prog.wantsStandIn 23=false by kernel_rfl)
    .exact(show prog.wantsStandIn 24=false by kernel_rfl)⟩)
  (by kernel_rfl)
#print axioms proved
end modelPools
end
end Go.Proofs.YtkjhnllcphidpaaGreatDoor
