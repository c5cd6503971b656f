/- Part 29. -/
import Derived.Test.YtoenclhimbpfeaaGreatDoorW28
namespace Go.Proofs.YtoenclhimbpfeaaGreatDoor
set_option linter.all false
set_option maxHeartbeats 16000000
set_option maxRecDepth 100000
section
open Go.Proofs.Tryz Go.RowKit
def belowB(k:Nat):Nat->Bool:=λy=>decide (y<k)
theorem qE:belowB 0=aU:=by funext y;simp[belowB,aU]
theorem yj(k:Nat):belowB k k=false:=by simp[belowB]
theorem tc(k:Nat):ap (belowB k) k true=belowB (k+1):=by
 funext y
 by_cases e:y=k
 .subst e;rw[aM];simp[belowB]
 .rw[aA _ _ e];unfold belowB
  by_cases q:y<k
  .simp[q,Nat.lt_succ_of_lt q]
  .have:¬y<k+1:=by omega
   simp[q,this]
theorem di(k:Nat):∀n,k<=n->cntB (belowB k) n=k
 |0,h=>by obtain rfl:k=0:=by omega
          rfl
 |n+1,h=>by
  unfold cntB;by_cases e:k=n+1
  .have e2:cntB (belowB k) n=n:=by
    rw[eP (T:=belowB n) n (λx hx=>by unfold belowB;simp[hx];omega)];exact di n n (Nat.le_refl _)
   rw[e2];subst e;simp[belowB]
  .rw[di k n (by omega)]
   have:¬n<k:=by omega
   simp[belowB,this]
def rN(bound:Nat)(n:Int)(v:Value):Nat->Value
 |0=>.int .i64 bound
 |1=>.int .i64 n
 |_=>v
section
variable{w w':World}{b off N bound L:Nat}{c:Nat->Value}{S:Nat->Bool}{v:Value}{h:Nat->Nat}
theorem LC.congr(H:LC w b off N c bound S v h L){c':Nat->Value}(e:∀i,i<N->c i=c' i):LC w b off N c' bound S v h L:=
 ⟨H.blk.congr e,H.inb,by rw[<-e _ (by have:=H.inb;omega)];exact H.c0,by rw[<-e _ (by have:=H.inb;omega)];exact H.c1,by rw[<-e _ (by have:=H.inb;omega)];exact H.c2,H.ls,H.nb⟩
theorem zw(bound:Nat)(n m:Int)(v:Value)(i:Nat)(hi:i<3):upd (rN bound n v) (0+1) (.int .i64 m) i=rN bound m v i:=by
 match i,hi with
 |0,_=>rfl
 |1,_=>rfl
 |2,_=>rfl
end
theorem sB(bound:Nat)(w:World)(hb0:1<=bound)(hb:bound<=65535):Calls prog 35 #[.int .i64 bound] w λe w'=>∃v h L,e=.returned (.agg #[.int .i64 bound,.int .i64 bound,v])/\LS w' bound (belowB bound) v h L/\(∀k,LF v h L k->w.heap.size<=k)/\Fr NoF w w':=by
 have HE:Hid (∀W,Calls prog 36 #[.int .i64 bound] W _):=λW=>jP bound W hb0 hb
 go_enter func35,ntmps35
 go_wp2_with fail
 refine(HE.out _).mono ?_;clear HE;rintro e w1⟨v,h,L,rfl,hls,hnew,hf⟩;obtain⟨g,cap,rfl,g1,g2⟩:=hls.r.shape;have hfs:=hf.size;simp only[World.size_alloc]at hfs
 have B0:Blk w1 w.heap.size 3 (rN 0 0 (.slice none 0 0)):=(Blk.new _ _ _ _ _ _ rfl rfl (λi hi=>by
  match i,hi with
  |0,_=>rfl
  |1,_=>rfl
  |2,_=>rfl)).fr hf id
 have F1:Fr NoF w w1:=((Fr.refl NoF w).alloc _).trans hf (λ_ q=>.inl q)
 have HLA:Hid (LC (w1.alloc (.cells #[.int .i64 bound,.int .i64 0,.slice (some ⟨g,0,none⟩) L cap] 114)) w1.heap.size 0 3 (rN bound 0 (.slice (some ⟨g,0,none⟩) L cap)) bound (belowB 0) (.slice (some ⟨g,0,none⟩) L cap) h L):=by
  refine⟨Blk.new _ _ _ _ _ _ rfl rfl (λi hi=>by
   match i,hi with
   |0,_=>rfl
   |1,_=>rfl
   |2,_=>rfl),by omega,rfl,by rw[di 0 bound (by omega)];rfl,rfl,⟨?_,λx q=>by simp[belowB]at q⟩,λq=>by have:=hls.r.lt _ q;omega⟩
  rw[qE];exact hls.r.fr ((Fr.refl NoF w1).alloc _) (λ_ _ q=>q)
 have HB0:=Hd (B0.alloc (.cells #[.int .i64 bound,.int .i64 0,.slice (some ⟨g,0,none⟩) L cap] 114));have HF1:=Hd (F1.alloc (.cells #[.int .i64 bound,.int .i64 0,.slice (some ⟨g,0,none⟩) L cap] 114));have HNEW:=Hd (λk q=>(show w.heap.size+1<=k from by have:=hnew k q;simpa using this));clear hls hnew hf B0 F1;go_wp2;have hsb:w.heap.size<w1.heap.size:=by omega
 generalize w1.alloc (.cells #[.int .i64 bound,.int .i64 0,.slice (some ⟨g,0,none⟩) L cap] 114)=wA at*;generalize w1.heap.size=sb at*
 go_loopw [8] (λxv wr=>∃k:Nat,k<=bound/\xv=.int .i64 k/\Hid (LC wr sb 0 3 (rN bound k (.slice (some ⟨g,0,none⟩) L cap)) bound (belowB k) (.slice (some ⟨g,0,none⟩) L cap) h L)/\Hid (Fr (SF sb (.slice (some ⟨g,0,none⟩) L cap) h L) wA wr)) (λxv _=>bound-(intOf xv).toNat)
 case atStart=>exact⟨0,Nat.zero_le _,rfl,HLA.out,Fr.refl _ _⟩
 case round=>
  obtain⟨k,hk,rfl,HL,HF⟩:=hrel;by_cases hlt:k<bound
  .have HADD:=Hd (sg HL.out hlt (yj k))
   clear HL
   go_wp2_with fail
   refine HADD.out.mono ?_;clear HADD;rintro e w2⟨rfl,h1,h2⟩
   have HL2:Hid (LC w2 sb 0 3 (rN bound (k+1:Nat) (.slice (some ⟨g,0,none⟩) L cap)) bound (belowB (k+1)) (.slice (some ⟨g,0,none⟩) L cap) h L):=by
    rw[di k bound hk,tc]at h1;exact h1.congr (λi hi=>zw _ _ _ _ i hi)
   have HF2:=Hd (HF.out.trans h2 (λ_ q=>.inl q));clear h1 h2 HF;go_wp2
   go_roundw
   case rel=>exact⟨k+1,by omega,by go_num,HL2.out,HF2.out⟩
   case measure=>simp[intOf]<;>omega
  .obtain rfl:k=bound:=by omega
   have RB:=HB0.out.fr HF.out (λq=>by rcases q with q|q;omega;have:=HNEW.out _ q;omega);have HRB:=Hd RB;have s0:wr.cell? ⟨sb,0,none⟩=some (.int .i64 k):=HL.out.blk.cell (i:=0) (by omega);have s1:wr.cell? ⟨sb,1,none⟩=some (.int .i64 k):=HL.out.blk.cell (i:=1) (by omega);have s2:wr.cell? ⟨sb,2,none⟩=some (.slice (some ⟨g,0,none⟩) L cap):=HL.out.blk.cell (i:=2) (by omega);have ls:=HL.out.blk.lt;have t0:wr.cell? ⟨w.heap.size,0,none⟩=some (.int .i64 0):=RB.cell (i:=0) (by omega);have t1:wr.cell? ⟨w.heap.size,1,none⟩=some (.int .i64 0):=RB.cell (i:=1) (by omega);have t2:wr.cell? ⟨w.heap.size,2,none⟩=some (.slice none 0 0):=RB.cell (i:=2) (by omega);have g0:=RB.frozen 0;have g1':=RB.frozen 1;have g2':=RB.frozen 2;have lr:=RB.lt;have hne:¬w.heap.size=sb:=by omega
   clear RB hlt;have HRS:Hid (Blk (((wr.setCell ⟨w.heap.size,0,none⟩ (.int .i64 k)).setCell ⟨w.heap.size,1,none⟩ (.int .i64 k)).setCell ⟨w.heap.size,2,none⟩ (.slice (some ⟨g,0,none⟩) L cap)) w.heap.size 3 (upd (upd (upd (rN 0 0 (.slice none 0 0)) 0 (.int .i64 k)) 1 (.int .i64 k)) 2 (.slice (some ⟨g,0,none⟩) L cap))):=((HRB.out.set 0 _).set 1 _).set 2 _;have F3:Fr (λi=>i=w.heap.size) wr (((wr.setCell ⟨w.heap.size,0,none⟩ (.int .i64 k)).setCell ⟨w.heap.size,1,none⟩ (.int .i64 k)).setCell ⟨w.heap.size,2,none⟩ (.slice (some ⟨g,0,none⟩) L cap)):=(((Fr.refl (λi=>i=w.heap.size) wr).setCell (p:=⟨w.heap.size,0,none⟩) (.inl rfl) _).setCell (p:=⟨w.heap.size,1,none⟩) (.inl rfl) _).setCell (p:=⟨w.heap.size,2,none⟩) (.inl rfl) _;have HF3:=Hd F3;clear F3;go_wp2
   (try simp only[Exit.inBlock,Exit.then])
   refine bodyPost_ret (af Tryz.results35 _ _ HRS.out rfl underlying114 rfl (by kernel_rfl)) rfl ?_;refine⟨.slice (some ⟨g,0,none⟩) L cap,h,L,rfl,⟨HL.out.ls.r.fr HF3.out (λi q e=>by have:=HNEW.out i q;omega),HL.out.ls.dom⟩,λi q=>by have:=HNEW.out i q;omega,((HF1.out.trans (G:=SF sb (.slice (some ⟨g,0,none⟩) L cap) h L) HF.out (λi q=>.inr (by rcases q with q|q;omega;have:=HNEW.out i q;omega))).trans (G:=λi=>i=w.heap.size) HF3.out (λi q=>.inr (by omega)))⟩
theorem mP(w:World):CallsD prog 93 #[] .returning w λe u' w'=>e=.returned (.tuple #[])/\u'=.returning/\w'=w:=by
 refine callsD_of_wpS func93 rfl λc₀ cs hu=>?_
 apply wpS_region;simp[wpOpsS,go_sem,recoverD,hu,ntmps93,Exit.thenS]
 cases c₀
 simp_all [bodyPostS,results,Tryz.results93,Exit.thenS,go_sem]
theorem Ah(w:World):CallsD prog 124 #[] .returning w λe u' w'=>e=.returned (.tuple #[])/\u'=.returning/\w'=w:=by
 refine callsD_of_wpS func124 rfl λc₀ cs hu=>?_
 apply wpS_region;simp[wpOpsS,go_sem,recoverD,hu,ntmps124,Exit.thenS]
 cases c₀
 simp_all [bodyPostS,results,Tryz.results124,Exit.thenS,go_sem]
def Own(g:FuncId):Prop:=∀(args:Array Value) (w:World),(callFunc g args).run prog w=.ok (.enter g args) w
section
variable{w:World}{pb:Nat}{g:FuncId}{rv:Value}
theorem Bw{c1:Value}{Q:World->Prop}(ho:Own g)(hr:w.cell? ⟨pb,1,none⟩=some rv)(hlt:pb<w.heap.size)(hc:Calls prog g #[rv,c1] w λe w'=>e=.returned (.tuple #[])/\Q w'):
  Calls prog 69 #[.pointer (some ⟨pb,0,none⟩),.func (.func g) #[] #[c1]] w λe w'=>e=.returned (.tuple #[])/\Q w':=by
 have HC:=Hd hc;have HO:=Hd ho;clear hc ho
 go_enter_defers func69,ntmps69
 go_wp2_with fail
 rw[HO.out,Oper.upon_enter];refine HC.out.mono ?_;rintro e w1⟨rfl,hq⟩;have HQ:=Hd hq;clear hq;go_wp2;refine leaves_cons (f:=93) (args:=#[]) (by simp) (by simp[go_sem]) ?_;refine(mP _).mono ?_;rintro e u' w''⟨rfl,rfl,rfl⟩;simp[Leaves,settle,results,Tryz.results69,go_sem];exact HQ.out
theorem AL{c1 c2:Value}{Q:World->Prop}(ho:Own g)(hr:w.cell? ⟨pb,1,none⟩=some rv)(hlt:pb<w.heap.size)(hc:Calls prog g #[rv,c1,c2] w λe w'=>e=.returned (.tuple #[])/\Q w'):
  Calls prog 69 #[.pointer (some ⟨pb,0,none⟩),.func (.func g) #[] #[c1,c2]] w λe w'=>e=.returned (.tuple #[])/\Q w':=by
 have HC:=Hd hc;have HO:=Hd ho;clear hc ho
 go_enter_defers func69,ntmps69
 go_wp2_with fail
 rw[HO.out,Oper.upon_enter];refine HC.out.mono ?_;rintro e w1⟨rfl,hq⟩;have HQ:=Hd hq;clear hq;go_wp2;refine leaves_cons (f:=93) (args:=#[]) (by simp) (by simp[go_sem]) ?_;refine(mP _).mono ?_;rintro e u' w''⟨rfl,rfl,rfl⟩;simp[Leaves,settle,results,Tryz.results69,go_sem];exact HQ.out
end
end
end Go.Proofs.YtoenclhimbpfeaaGreatDoor
