/-
  CrashWhole: of a run that never stops, a FlushAll behind it: the answers are the Model's, and the disk that is left holds what the Model holds: the row, and its card. No condition of its own; the library's table of trailing zeros (math/bits.deBruijn64tab) is as its initialiser lays it: the card ties it to the program's text.
-/
import Derived.Test.YtoenclhimbpfeaaGreatDoorW49
import Derived.Test.YtoenclhimbpfeaaGreatDoorW54
import Derived.Test.YtoenclhimbpfeaaGreatDoorTie
import Derived.Lib.LaidTab
import Derived.Test.YtoenclhimbpfeaaGreatDoorCards
import Derived.Deep.Strs
namespace Go.Proofs.YtoenclhimbpfeaaGreatDoor
set_option linter.all false
set_option maxHeartbeats 16000000
set_option maxRecDepth 100000
section
open Go.Maps Go.Proofs.Tryz Go.RowKit
theorem E3(k:Nat)(hk:k<5):BR k=.string (DE k):=by
 rcases(by omega:k=0\/k=1\/k=2\/k=3\/k=4)with rfl|rfl|rfl|rfl|rfl<;>rfl
theorem BW(L:List OpF){j:Nat}(hj:j<(L++[(⟨6,0,0⟩:OpF)]).length):(L++[⟨6,0,0⟩])[j]=opW L j:=by
 unfold opW;rw[List.getD_eq_getElem?_getD];by_cases h:j<L.length
 .rw[List.getElem_append_left h,List.getElem?_eq_getElem h];rfl
 .have e:j=L.length:=by simp at hj;omega
  subst e;rw[List.getElem?_eq_none (Nat.le_refl _)];simp
theorem AV{w:World}{a:Option Addr}{L:List OpF}{c:Nat}(h:SlC w 3 (.slice a (L.length+1) c) (L.length+1) (opsC (L++[⟨6,0,0⟩]))):∃b off,a=some ⟨b,off,none⟩/\rD w b off L:=by
 obtain⟨b,off,c',e,_,_,hb,_⟩:=h.at (k:=0) (by omega) (by omega);simp only[Value.slice.injEq]at e;obtain⟨rfl,_,rfl⟩:=e;refine⟨b,off,rfl,hb,λj hj=>?_⟩;obtain⟨b2,off2,c2,e2,_,_,_,hc⟩:=h.at (k:=j) hj (by omega);simp only[Value.slice.injEq,Option.some.injEq,Addr.mk.injEq]at e2;obtain⟨⟨rfl,rfl,_⟩,_,_⟩:=e2;have hj2:j<(L++[(⟨6,0,0⟩:OpF)]).length:=by simp;omega
 obtain⟨g0,g1,g2⟩:=oU (L++[⟨6,0,0⟩]) hj2;rw[BW L hj2]at g0 g1 g2;have k0:=hc _ _ g0;have k1:=hc _ _ g1;have k2:=hc _ _ g2;exact⟨k0,by rw[show off+j*3+1=off+(j*3+1) by omega];exact k1,by rw[show off+j*3+2=off+(j*3+2) by omega];exact k2⟩
theorem uL(n:Nat)(M:AM)(L:List OpF):amW n M L (L.length+1)=amW n M L L.length:=by
 have e1:opW L L.length=⟨6,0,0⟩:=by unfold opW;rw[List.getD_eq_getElem?_getD,List.getElem?_eq_none (Nat.le_refl _)];rfl
 show((amW n M L L.length).call n (opW L L.length)).2=_
 rw[e1];rfl
def MJ(r n:Nat)(L:List OpF)(j:Nat)(w:World):Prop:=∃l lv,RG w r n 12 l lv/\PSm n 12 j l/\AML (amW n (am0 12) L j) 12 l/\∀i,GFr r lv i->r<=i
theorem DH{r n j:Nat}{L:List OpF}{w:World}(hn:n<=6)(hj:j<500)(hL:∀o∈L,o.ok)(h:MJ r n L j w):
  Calls prog 11 #[.pointer (some ⟨r,0,none⟩),.agg #[.int .i64 (opW L j).k,.int .u32 ((opW L j).id:Nat),.int .u64 ((opW L j).v:Nat)]] w λe w'=>e=.returned (.agg #[.int .i64 ((anW n (am0 12) L j).e:Nat),.int .u32 ((anW n (am0 12) L j).id:Nat),.int .u64 ((anW n (am0 12) L j).v:Nat)])/\MJ r n L (j+1) w'/\Fr (λi=>r<=i) w w':=by
 obtain⟨l,lv,h1,h2,h3,h4⟩:=h;obtain⟨l',P',A',hs⟩:=Ch h2 h3 (by omega) (by omega) (opW L j) (yA hL j);have hr:=h1.hd.lt;refine(hs w r lv h1).mono ?_;rintro e w'⟨he,⟨lv',k1,k2⟩,f⟩;exact⟨he,⟨l',lv',k1,P',A',λi q=>(k2 i q).elim (h4 i) (λq=>by omega)⟩,f.mono (λi q=>h4 i q)⟩
theorem MJ.fr0{r n j:Nat}{L:List OpF}{w w':World}(h:MJ r n L j w)(f:Fr NoF w w'):MJ r n L j w':=by
 obtain⟨l,lv,h1,h2⟩:=h;exact⟨l,lv,h1.fr0 f,h2⟩
end
end Go.Proofs.YtoenclhimbpfeaaGreatDoor
namespace Go.Proofs.YtoenclhimbpfeaaGreatDoor
set_option linter.all false
set_option maxHeartbeats 16000000
set_option maxRecDepth 100000
section
open Go.Maps Go.Proofs.Tryz Go.RowKit
section
variable{w w':World}{db m:Nat}{F:Nat->Prop}{ids:List Nat}{val:Nat->Nat}
theorem LV.fr{G:Nat->Prop}(h:LV db ids val m w F)(f:Fr G w w')(hG:∀i,F i->¬G i):LV db ids val m w' F:=by
 obtain⟨D,h1,h2⟩:=h;exact⟨D,h1.fr f hG,h2⟩
theorem LV.lt(h:LV db ids val m w F):∀i,F i->i<w.heap.size:=by
 obtain⟨D,h1,h2⟩:=h;exact h1.lt
theorem MJ.new{n:Nat}(L:List OpF)(w:World)(hn:1<=n/\n<=6):MJ w.heap.size n L 0 (w.alloc (.cells #[.int .i64 n,.int .i64 12,.slice none 0 0] 43)):=by
 refine⟨[],_,⟨Blk.new _ _ _ _ _ _ rfl rfl (λi hi=>?_),SlF.nil _ _ _ _,λi q=>(by cases q),⟨by simp,by omega,by omega⟩,λp hp=>(by cases hp)⟩,⟨List.Pairwise.nil,λp hp=>(by cases hp),Nat.zero_le _,Nat.zero_le _,λp hp=>(by cases hp)⟩,⟨rfl,λp hp=>(by cases hp),λp hp=>(by cases hp),rfl⟩,λi q=>?_⟩
 .match i,hi with
  |0,_=>rfl
  |1,_=>rfl
  |2,_=>rfl
 .rcases q with q|q
  .omega
  .cases q
theorem CM(A:Nat->AnF){j N:Nat}(hj:j<N):gM A N (j*3)=.int .i64 ((A j).e:Nat)/\gM A N (j*3+1)=.int .u32 ((A j).id:Nat)/\gM A N (j*3+2)=.int .u64 ((A j).v:Nat):=by
 unfold gM GG;rw[if_pos (by omega),if_pos (by omega),if_pos (by omega),show j*3/3=j by omega,show(j*3+1)/3=j by omega,show(j*3+2)/3=j by omega,show j*3%3=0 by omega,show(j*3+1)%3=1 by omega,show(j*3+2)%3=2 by omega];exact⟨rfl,rfl,rfl⟩
end
theorem o7(a0 a1:Int)(v:Value)(L0:List OpF)(w:World)(hop:SlC w 3 v L0.length (opsC L0))(hok:∀o∈L0,o.ok)(hT:dE w):Calls prog 3 #[.agg #[.int .i64 a0,.int .i64 a1],v] w λe w'=>e=.returned (.bool true)/\Fr NoF w w':=by
 have HOP:=Hd hop;have HT:=Hd hT;obtain⟨L,hL⟩:∃L,L=L0.take 120:=⟨_,rfl⟩;have HLL:Hid (L.length<=120/\∀o∈L,o.ok):=⟨by subst hL;rw[List.length_take];omega,λo q=>hok o (by subst hL;exact List.mem_of_mem_take q)⟩;have HLE:=Hd hL;obtain⟨n,hn1,hn2,en⟩:=Gs a0 (k:=6) (by decide) (by decide);obtain⟨k,hk,ek⟩:=Gy a1 (k:=5) (by decide) (by decide);have HN:Hid (1<=n/\n<=6):=⟨by omega,by omega⟩;have HK:Hid (k<5):=(by omega:k<5);have EN:=Hd en;have EK:=Hd ek;clear hop hok hT hL en ek;go_enter func3,ntmps3
 go_wp2_with fail
 have B0:Hid (Blk (w.alloc (.cells #[.int .i64 a0,.int .i64 a1] 22)) w.heap.size 2 (λi=>match i with|0=>.int .i64 a0|_=>.int .i64 a1)):=Blk.new _ _ _ 2 _ _ rfl rfl (λi hi=>by
  match i,hi with
  |0,_|1,_=>rfl)
 have F0:Hid (Fr NoF w (w.alloc (.cells #[.int .i64 a0,.int .i64 a1] 22))):=(Fr.refl NoF w).alloc _;refine(fw _).mono ?_;rintro e w1⟨rfl,b1,f1⟩;have B1:=Hd (B0.out.fr f1 id);have F1:=Hd (F0.out.trans f1 (λ_ q=>.inl q));have P1:=Hd b1;clear B0 F0 b1 f1;generalize(w.alloc (.cells #[.int .i64 a0,.int .i64 a1] 22))=w0 at*;generalize w0.heap.size=nb at*;generalize w.heap.size=hb at*
 go_wp2_with fail
 refine(pS _).mono ?_;rintro e w2⟨rfl,f2⟩;have B2:=Hd (B1.out.fr f2 id);have P2:=Hd (P1.out.fr f2 id);have F2:=Hd (F1.out.trans f2 (λ_ q=>.inl q));clear f2 B1 P1 F1;have x0:=B2.out.cell (i:=0) (by omega);have x1:=B2.out.cell (i:=1) (by omega);have xl:=B2.out.lt
 go_wp2_with fail
 go_quiet (fail)
 rw[EN.out,EK.out];clear x0 x1 xl B2 EN EK;have F2n:=Hd (F2.out.drewN nq);have P2n:=Hd (P2.out.fr ((Fr.refl NoF w2).drewN nq) id);clear F2 P2;generalize w2.drewN nq=w2n at*
 go_wp2_with fail
 refine(Fe 12 _ (by omega) (by omega)).mono ?_;rintro e w3⟨db,FD,rfl,d1,d2,d3⟩;have D3:=Hd d1;have F3:=Hd (F2n.out.trans d3 (λ_ q=>.inl q));have P3:=Hd (P2n.out.fr d3 id);clear d1 d2 d3 F2n P2n
 go_wp2_with fail
 refine(sF (HOP.out.keep F3.out)).mono ?_;rintro e w4⟨v4,rfl,o4,f4⟩;rw[<-HLE.out]at o4;obtain⟨o1,o2,rfl,_,_⟩:=(SlC.ofOwn o4 (jl _)).shape;have O4:=Hd o4;have D4:=Hd (D3.out.fr0 f4);have F4:=Hd (F3.out.trans f4 (λ_ q=>.inl q));have P4:=Hd (P3.out.fr f4 id);have S4:=Hd f4.size;have N3:=Hd P3.out.lt;have LD3:=Hd D3.out.lt;have S3:=Hd F3.out.size;clear o4 f4 D3 F3 P3
 go_wp2_with(at_builtin;go_must(refine eT (base:=w3.heap.size) DY rfl _ _ rfl (by rfl) (by rfl) (by have:=S4.out;have:=HLL.out.1;simp;omega) (ak O4.out ((Fr.refl NoF _).alloc _) (λ_ _ q=>q)) (SlC.ofOwn (aQ (w0:=w4) (Nat.le_refl _) #[.int .i64 6,.int .u32 0,.int .u64 0] 36 3 1 _ rfl rfl (by unfold maxLen;omega)) (by simp[Value.oneCell'])) (by have:=HLL.out.1;unfold maxLen;omega) (by have:=HLL.out.1;omega) ?_);intro v6 w6 hown' hf' _;have FF:=Hd hf';have HO6:=Hd hown';clear hf' hown';have P6:=Hd ((P4.out.fr ((Fr.refl NoF _).alloc _) id).fr FF.out (λq=>by have:=aj O4.out nb q;have:=N3.out;omega));have xk:=P6.out.cell (i:=k) HK.out;rw[E3 k HK.out]at xk;have xkl:=P6.out.lt)
 have F6:=Hd ((F4.out.alloc (.cells #[.int .i64 6,.int .u32 0,.int .u64 0] 36)).trans FF.out (λi q=>.inr (Nat.le_trans S3.out (aj O4.out i q))));have D6:=Hd ((D4.out.fr0 ((Fr.refl NoF _).alloc (.cells #[.int .i64 6,.int .u32 0,.int .u64 0] 36))).fr FF.out (λi hi q=>by have:=LD3.out i hi;have:=aj O4.out i q;omega));have o6:w6.ownsRow w3.heap.size 36 3 v6 (L.length+1) (opsC (L++[⟨6,0,0⟩])):=by rw[kD];exact HO6.out
 have sc:=SlC.ofOwn o6 (jl _);obtain⟨a6,c6,rfl,q6,q7⟩:=sc.shape;obtain⟨ob,oo,rfl,hops⟩:=AV sc;have OP6:=Hd hops;unfold maxLen at q7;have QL:=Hd (And.intro q6 q7);clear o6 sc hops xk xkl P6 HO6 FF O4 D4 F4 P4 S4 N3 LD3 S3 q6 q7;refine(xw k HK.out HN.out HLL.out.1 HLL.out.2 D6.out (HT.out.fr0 F6.out) OP6.out).mono ?_;rintro e w7⟨⟨ab,lb,FL,rfl,hb7,hab,hlv,hfl⟩,f7⟩;have F7:=Hd (F6.out.trans f7 (λ_ q=>.inl q));have OP7:=Hd (OP6.out.fr f7 id);have AB7:=Hd hb7;have LV7:=Hd hlv;have LW7:Hid (∀i,FL i->w.heap.size<=i):=λi q=>Nat.le_trans F6.out.size (hfl i q).1
 have FN7:=Hd hfl;have S7:=Hd (Nat.le_trans F6.out.size hab);clear hb7 hab hlv hfl f7 D6 F6 OP6
 go_wp2_with fail
 have f8:Fr NoF w7 (w7.alloc (.cells #[.int .i64 n,.int .i64 12,.slice none 0 0] 43)):=(Fr.refl NoF w7).alloc _;have MJ8:=Hd (MJ.new (n:=n) L w7 HN.out);have F8:=Hd (F7.out.trans f8 (λ_ q=>.inl q));have OP8:=Hd (OP7.out.fr f8 id);have AB8:=Hd (AB7.out.fr f8 id);have LV8:=Hd (LV7.out.fr0 f8);have LT8:=Hd LV7.out.lt;have ABL:=Hd AB7.out.lt;have OBL:=Hd OP7.out.1;have RS:=Hd F7.out.size;have RW8:Hid (w7.heap.size<(w7.alloc (.cells #[.int .i64 n,.int .i64 12,.slice none 0 0] 43)).heap.size):=by show _<_;simp
 clear f8 F7 OP7 AB7 LV7 FN7 S7;generalize(w7.alloc (.cells #[.int .i64 n,.int .i64 12,.slice none 0 0] 43))=w8 at*;generalize w7.heap.size=r at*
 go_loopw [14] (λi wr=>∃j:Nat,j<=L.length+1/\i=.int .i64 j/\MJ r n L j wr/\Fr (λi=>r<=i) w8 wr) (λi _=>L.length+1-(intOf i).toNat)
 case atStart=>exact⟨0,Nat.zero_le _,rfl,MJ8.out,Fr.refl _ _⟩
 case round=>
  obtain⟨j,hj,rfl,hm,hf⟩:=hrel;have HM:=Hd hm;have HF:=Hd hf;by_cases hlt:j<L.length+1
  .have HCZ:Hid (∀W,Fr (λi=>r<=i) w8 W->W.cell? ⟨ob,oo+j*3,none⟩=some (.int .i64 (opW L j).k)/\W.cell? ⟨ob,oo+j*3+1,none⟩=some (.int .u32 ((opW L j).id:Nat))/\W.cell? ⟨ob,oo+j*3+2,none⟩=some (.int .u64 ((opW L j).v:Nat))/\
     W.cell? ⟨ab,j*3,none⟩=some (.int .i64 ((anW n (am0 12) L j).e:Nat))/\W.cell? ⟨ab,j*3+1,none⟩=some (.int .u32 ((anW n (am0 12) L j).id:Nat))/\W.cell? ⟨ab,j*3+2,none⟩=some (.int .u64 ((anW n (am0 12) L j).v:Nat))):=λW f=>by
    have b:=AB8.out.fr f (by have:=ABL.out;omega);obtain⟨y0,y1,y2⟩:=(OP8.out.fr f (by have:=OBL.out;omega)).2 j hlt;obtain⟨z0,z1,z2⟩:=CM (anW n (am0 12) L) hlt;exact⟨y0,y1,y2,by rw[<-z0];exact b.cell (i:=j*3) (by omega),by rw[<-z1];exact b.cell (i:=j*3+1) (by omega),by rw[<-z2];exact b.cell (i:=j*3+2) (by omega)⟩
   obtain⟨c0,c1,c2,c3,c4,c5⟩:=HCZ.out wr hf
   have HST:Hid (∀W,Fr NoF wr W->Calls prog 11 #[.pointer (some ⟨r,0,none⟩),.agg #[.int .i64 (opW L j).k,.int .u32 ((opW L j).id:Nat),.int .u64 ((opW L j).v:Nat)]] W λe w'=>e=.returned (.agg #[.int .i64 ((anW n (am0 12) L j).e:Nat),.int .u32 ((anW n (am0 12) L j).id:Nat),.int .u64 ((anW n (am0 12) L j).v:Nat)])/\MJ r n L (j+1) w'/\Fr (λi=>r<=i) w8 w'):=λW f=>
    (DH HN.out.2 (by have:=HLL.out.1;omega) HLL.out.2 (hm.fr0 f)).mono λe w' ⟨q1,q2,q3⟩=>⟨q1,q2,(hf.trans f.none (λ_ q=>.inl q)).trans q3 (λ_ q=>.inl q)⟩
   have obl:=Nat.lt_of_lt_of_le (Nat.lt_trans OBL.out RW8.out) hf.size;have abl:=Nat.lt_of_lt_of_le (Nat.lt_trans ABL.out RW8.out) hf.size;generalize opW L j=z at HCZ HST c0 c1 c2;generalize anW n (am0 12) L j=an at HCZ HST c3 c4 c5;obtain⟨zk,zi,zx⟩:=z;obtain⟨E,I,V⟩:=an;simp only at HCZ HST c0 c1 c2 c3 c4 c5;have HLT:=Hd hlt;have hj120:j<=130:=by have:=HLL.out.1;omega
   clear hf hm MJ8
   go_wp2_with fail
   go_region_held3(λw'=>w'.cell? ⟨ob,oo+j*3,none⟩=some (.int .i64 zk)/\w'.cell? ⟨ob,oo+j*3+1,none⟩=some (.int .u32 (zi:Nat))/\w'.cell? ⟨ob,oo+j*3+2,none⟩=some (.int .u64 (zx:Nat))/\w'.cell? ⟨ab,j*3,none⟩=some (.int .i64 (E:Nat))/\w'.cell? ⟨ab,j*3+1,none⟩=some (.int .u32 (I:Nat))/\w'.cell? ⟨ab,j*3+2,none⟩=some (.int .u64 (V:Nat)))
    (first|exact HCZ.out _ (Fr.trans (F:=λi=>r<=i) F5.out (Fr.none (by repeat(first|exact Fr.refl NoF _|apply Fr.drew|apply Fr.drewN))) (λ_ q=>.inl q))|exact HCZ.out _ (Fr.trans (F:=λi=>r<=i) (HF.out.trans G4.out.none (λ_ q=>.inl q)) (Fr.none (by repeat(first|exact Fr.refl NoF _|apply Fr.drew|apply Fr.drewN))) (λ_ q=>.inl q))|exact HCZ.out _ (Fr.trans (F:=λi=>r<=i) HF.out (Fr.none (by repeat(first|exact Fr.refl NoF _|apply Fr.drew|apply Fr.drewN))) (λ_ q=>.inl q)))
    (first
     |(go_at_call 10;(with_reducible refine(pI E I V _).mono ?_);rintro e w4⟨rfl,f4⟩;have G4:Hid (Fr NoF wr w4):=Fr.trans (F:=NoF) (by repeat(first|exact Fr.refl NoF _|apply Fr.drew|apply Fr.drewN)) f4 (λ_ q=>.inl q);clear f4)
     |(go_at_call 11;(with_reducible refine(HST.out _ (Fr.trans (F:=NoF) G4.out (by repeat(first|exact Fr.refl NoF _|apply Fr.drew|apply Fr.drewN)) (λ_ q=>.inl q))).mono ?_);rintro e w5⟨rfl,m5,f5⟩;have M5:=Hd m5;have F5:=Hd f5;clear m5 f5))
   all_goals
    rename_i hHeld;clear hHeld;clear HST HCZ HF HM
    go_wp2_with fail
    go_roundw
    case rel=>exact⟨j+1,by have:=HLT.out;omega,by go_num,M5.out,F5.out⟩
    case measure=>simp[intOf];omega
  .obtain rfl:j=L.length+1:=by omega
   obtain⟨wo,ewo⟩:∃x,x=wr:=⟨wr,rfl⟩;subst ewo;obtain⟨pl,lv,hg,_,ha,hfree⟩:=hm;have hids:(amW n (am0 12) L L.length).ids=pl.map (·.id):=by rw[<-uL];exact ha.ids
   have hval:∀p∈pl,(amW n (am0 12) L L.length).val p.id=p.v:=by rw[<-uL];exact ha.val
   have HID:=Hd hids;have HVAL:=Hd hval;generalize(amW n (am0 12) L L.length)=M at HID HVAL LV8;clear hids hval ha;have LVW:=Hd (LV8.out.fr hf (λi q=>by have:=LT8.out i q;omega));have HPG:=Hd LVW.out.pages;have HG:=Hd hg;have HFR:=Hd hfree;obtain⟨ga,gc,rfl,gl,gm⟩:=hg.hl.shape;unfold maxLen at gm;have FWR:Hid (Fr NoF w wo):=F8.out.trans hf (λi q=>.inr (Nat.le_trans RS.out q));have SZW:Hid (r<wo.heap.size):=Nat.lt_of_lt_of_le RW8.out hf.size;have hpl:=hg.b1.1;clear hg hfree hf HM HF MJ8 AB8 OP8 LV8 F8
   go_wp2_with fail
   refine HPG.out.mono ?_;rintro e w9⟨v9,rfl,o9,f9⟩;rw[HID.out]at o9;obtain⟨a9,c9,hv9,_,l9⟩:=(OwK.sl o9).shape;rw[List.length_map]at hv9;subst hv9;have O9:=Hd o9;have HG9:=Hd (HG.out.fr0 f9);have LV9:=Hd (LVW.out.fr0 f9);have FW9:=Hd (FWR.out.trans f9 (λ_ q=>.inl q));have rc2:=HG9.out.c2;have rlt:=HG9.out.hd.lt;clear o9 f9 HG LVW FWR HPG
   go_wp2_with fail
   go_loopw [16] (λi wq=>∃t:Nat,t<=pl.length/\i=.int .i64 t/\∃FQ,LV lb M.ids M.val t wq FQ/\(∀i,FQ i->w.heap.size<=i/\(i<r\/w9.heap.size<=i))/\Fr (λi=>w.heap.size<=i/\(i<r\/w9.heap.size<=i)) w9 wq) (λi _=>pl.length-(intOf i).toNat)
   case atStart=>exact⟨0,Nat.zero_le _,rfl,FL,LV9.out,λi q=>⟨LW7.out i q,.inl (LT8.out i q)⟩,Fr.refl _ _⟩
   case round=>
    obtain⟨t,ht,rfl,FQ,hlq,hfl,hfq⟩:=hrel;have HFQ:=Hd hfq;have HFL:=Hd hfl;by_cases hlt:t<pl.length
    .have HCC:Hid (∀W,Fr (λi=>w.heap.size<=i/\(i<r\/w9.heap.size<=i)) w9 W->∃b9 f9 g,a9=some ⟨b9,f9,none⟩/\ga=some ⟨g,0,none⟩/\W.cell? ⟨b9,f9+t,none⟩=some (.int .u32 (pl[t].id:Nat))/\b9<W.heap.size/\W.cell? ⟨r,2,none⟩=some (.slice ga pl.length gc)/\r<W.heap.size/\g<W.heap.size/\W.cell? ⟨g,t*3,none⟩=some (.int .u32 (pl[t].id:Nat))/\W.cell? ⟨g,t*3+1,none⟩=some (.int .u64 (pl[t].v:Nat))):=λW f=>by
      have g1:=HG9.out.fr f (λi q h=>by have:=HFR.out i q;have:=HG9.out.lt i q;omega);have o1:OwK .u32 wo.heap.size 34 W (.slice a9 pl.length c9) (pl.map (·.id)):=ak O9.out f (λb q h=>by have:=aj O9.out b q;have:=(World.ownsRow.lt O9.out b q).2;have:=SZW.out;omega);obtain⟨b9,f9,c,e9,_,_,x1,x2⟩:=SlK.at (OwK.sl o1) (i:=t) (by rw[List.length_map];exact hlt);obtain⟨g,cap,e1,_,_,y1,y2,y3,_⟩:=g1.at hlt;simp only[Value.slice.injEq]at e9 e1;rw[List.getElem_map]at x2;exact⟨b9,f9,g,e9.1,e1.1,x2,x1,g1.c2,g1.hd.lt,y1,y2,y3⟩
     obtain⟨b9,o9,g,rfl,rfl,x0,x1,x2,x3,x4,x5,x6⟩:=HCC.out wr hfq
     have HRD:Hid (∀W,Fr NoF wr W->Calls prog 13 #[.pointer (some ⟨lb,0,none⟩),.int .u32 (pl[t].id:Nat)] W λe w'=>e=.returned (.tuple #[.int .u64 (pl[t].v:Nat),.int .i64 0])/\∃F2,LV lb M.ids M.val (t+1) w' F2/\(∀i,F2 i->w.heap.size<=i/\(i<r\/w9.heap.size<=i))/\Fr (λi=>w.heap.size<=i/\(i<r\/w9.heap.size<=i)) w9 w'):=λW f=>by
      have hi:pl[t].id∈M.ids:=by rw[HID.out];exact List.mem_map.2 ⟨_,List.getElem_mem hlt,rfl⟩
      have hu:=(HG9.out.ok pl[t] (List.getElem_mem hlt)).1;have rd:=(hlq.fr0 f).read (by omega) hi (by unfold xM at hu;omega);rw[HVAL.out _ (List.getElem_mem hlt)]at rd;refine rd.mono ?_;rintro e w'⟨he,F2,q1,q2,q3⟩;exact⟨he,F2,q1,λi q=>(q3 i q).elim (hfl i) (λq=>⟨Nat.le_trans FW9.out.size (Nat.le_trans hfq.size (Nat.le_trans f.size q)),.inr (Nat.le_trans hfq.size (Nat.le_trans f.size q))⟩),(hfq.trans f.none (λ_ q=>.inl q)).trans q2 (λi q=>.inl (hfl i q))⟩
     generalize pl[t]=pg at HCC HRD x0 x4 x5 x6;obtain⟨pi,pv,pp⟩:=pg;simp only at HCC HRD x0 x4 x5 x6;have htb:t<65536:=by omega
     clear hfq hlq hfl
     go_wp2_with fail
     refine(HRD.out _ (by repeat(first|exact Fr.refl NoF _|apply Fr.drew|apply Fr.drewN))).mono ?_;rintro e w10⟨rfl,F2,lv2,fl2,fr2⟩;obtain⟨b9',o9',g',e1,e2,z0,z1,z2,z3,z4,z5,z6⟩:=HCC.out w10 fr2;simp only[Option.some.injEq,Addr.mk.injEq]at e1 e2;obtain⟨rfl,rfl,_⟩:=e1;obtain⟨rfl,_⟩:=e2;have LV2:=Hd lv2;have FL2:=Hd fl2;have FR2:=Hd fr2;clear lv2 fl2 fr2 HRD HCC x0 x1 x2 x3 x4 x5 x6 rc2 rlt
     go_wp2_with fail
     go_quiet (fail)
     go_wp2
     go_roundw
     case rel=>exact⟨t+1,by omega,by go_num,F2,LV2.out.fr0 ((Fr.refl NoF w10).drewN _),FL2.out,FR2.out.trans ((Fr.refl NoF w10).drewN _) (λ_ q=>q.elim)⟩
     case measure=>simp[intOf];omega
    .obtain rfl:t=pl.length:=by omega
     have KEY:=Hd (FW9.out.trans hfq (λi q=>.inr q.1));clear hfq hlq hfl;go_wp2;go_returns;exact⟨rfl,KEY.out⟩
end
section
open Go.ChangeAt Go.ChangeShapes Go.Proofs.Tryz Go.RowKit Go.WideShapes
def BG:List Int:=Lib.deBruijn64tab.map λ(n:Nat)=>(n:Int)
theorem FY:prog.globalNamed "math/bits.deBruijn64tab" =some 0:=by kernel_rfl
theorem C4{W:World}(h:laidMet prog [("math/bits.deBruijn64tab",Lib.tabData .u8 BG)] W):dE W:=by
 have h1:=Lib.tabIs_of_head (t:=224) (e:=5) (n:=64) FY (by kernel_rfl) underlying224 underlying5 (by kernel_rfl) (by kernel_rfl) h;refine⟨λj hj=>?_⟩;have h2:=h1.cell FY j (by simpa[BG]using hj);rw[h2]
 congr 2
 unfold BG;rw[List.getD_eq_getElem?_getD,List.getElem?_map,List.getD_eq_getElem?_getD];have:j<Lib.deBruijn64tab.length:=hj;simp[List.getElem?_eq_getElem this]
noncomputable def qA(os:Os):World:=
 let w0:=World.holding prog os ⟨#[],#[],[]⟩
 {w0 with heap:=w0.heap.modify 0 fun
   |.cells _ t frozen=>.cells (BG.map λz=>Value.int .u8 z).toArray t frozen
   |o=>o}
theorem Co(os:Os)(args:Array Value):laidMet prog [("math/bits.deBruijn64tab",Lib.tabData .u8 BG)] ((qA os).forCall (λ_ _=>0) ⟨#[],args,[]⟩).memory:=
 laidMet_of_run' 8 (by kernel_rfl) (by kernel_rfl)
theorem GW:ownKnob prog.godebug=none:=by kernel_rfl
theorem Ak:laidOutB prog=true:=by kernel_rfl
theorem C9:prog.cellsOf 50=3:=by kernel_rfl
theorem Dp:prog.cellsOf 3=1:=by kernel_rfl
theorem CB:prog.cellsOf 34=1:=by kernel_rfl
theorem Cb:prog.cellsOf 27=1:=by kernel_rfl
theorem EW{H:Type}{enc:TypeId×Value->H}{P:Program}{w:World}{base:Nat}{spare:Nat->Bool}{held:Bool}{t:TypeId}{f0 f1 f2:Field}{fuel:Nat}{cs:List Value}{x:DataW H×List MemPlace}(ht:P.underlying t=some (.struct #[f0,f1,f2]))(h:DataW.trod enc P w base spare held fuel t cs=some x):
  ∃y0 y1 y2 n,x=(.agg [y0.1,y1.1,y2.1],y0.2++(y1.2++y2.2))/\DataW.trod enc P w base spare held n f0.type ((cs.drop f0.offset).take (P.cellsOf f0.type))=some y0/\
   DataW.trod enc P w base spare held n f1.type ((cs.drop f1.offset).take (P.cellsOf f1.type))=some y1/\DataW.trod enc P w base spare held n f2.type ((cs.drop f2.offset).take (P.cellsOf f2.type))=some y2:=by
 obtain⟨xs,n,_,rfl,hl,hlen,hf⟩:=DataW.trod_struct ht h
 match xs,hlen with
 |[y0,y1,y2],_=>exact⟨y0,y1,y2,n,by simp,by simpa using hf 0 f0 rfl,by simpa using hf 1 f1 rfl,by simpa using hf 2 f2 rfl⟩
end
section
open Go.Maps Go.RowKit
theorem yx(l:List OpF):∀u∈opsC l,u.oneCell'=true:=by
 intro u hu;obtain⟨o,_,ho⟩:=List.mem_flatMap.1 hu;simp only[opC,List.mem_cons,List.not_mem_nil,or_false]at ho;rcases ho with rfl|rfl|rfl<;>rfl
end
section
open Go.ChangeAt Go.ChangeShapes Go.Proofs.Tryz Go.RowKit Go.WideShapes
section
open Go.Deep
theorem uH{k:IntKind}{z:Int}(h:(Lit.int k z).wf=true)(hm:k.min=0):∃m:Nat,z=(m:Int)/\(m:Int)<=k.max:=by
 simp only[Lit.wf,Bool.and_eq_true,decide_eq_true_eq]at h;obtain⟨m,rfl⟩:=Int.eq_ofNat_of_zero_le (show 0<=z by omega);exact⟨m,rfl,h.2⟩
theorem Ct(b off i j k:Nat):((({block:=b,off:=off,spot:=none}:Addr).add (i*k)).add j)=⟨b,off+i*k+j,none⟩:=by
 unfold Addr.add;by_cases h1:i*k=0<;>by_cases h2:j=0<;>simp[h1,h2]
theorem su{t e:TypeId}{W:World}{base:Nat}{a:Addr}{len1 cap1:Nat}(ht:prog.underlying t=some (.slice e))(h:Value.okWide prog W .any base t (.slice (some a) len1 cap1)):a.spot=none/\a.block<W.heap.size:=by
 simp only[Value.okWide,ht,Cell.okWide,Cell.ok]at h;obtain⟨_,_,_,h2,row,cells,h3,_⟩:=h;refine⟨h2,?_⟩;unfold World.shape? at h3;rcases Nat.lt_or_ge a.block W.heap.size with q|q
 .exact q
 .rw[Array.getElem?_eq_none q]at h3;cases h3
theorem pY(l:List OpF):(opsC l).length=l.length*3:=by
 induction l with
 |nil=>rfl
 |cons x l ih=>show(opC x++opsC l).length=_;rw[List.length_append,ih];simp[opC];omega
theorem zz{L:List OpF}{P:Nat->Value->Prop}(h:∀i (hi:i<L.length),P (i*3) (.int .i64 L[i].k)/\P (i*3+1) (.int .u32 (L[i].id:Nat))/\P (i*3+2) (.int .u64 (L[i].v:Nat))){j:Nat}{u:Value}(hj:(opsC L)[j]?=some u):P j u:=by
 have hl:j<L.length*3:=by
  rw[<-pY];rcases Nat.lt_or_ge j (opsC L).length with q|q
  .exact q
  .rw[List.getElem?_eq_none q]at hj;cases hj
 have hi:j/3<L.length:=by omega
 obtain⟨a0,a1,a2⟩:=oU L hi;obtain⟨b0,b1,b2⟩:=h _ hi;have:j=j/3*3\/j=j/3*3+1\/j=j/3*3+2:=by omega
 rcases this with e|e|e<;>rw[e]at hj⊢
 .rw[hj]at a0;cases a0;exact b0
 .rw[hj]at a1;cases a1;exact b1
 .rw[hj]at a2;cases a2;exact b2
def ArgP(w:World)(v:Value)(L:List OpF):Prop:=SlC w 3 v L.length (opsC L)/\∀o∈L,o.ok
theorem Cp{H:Type}{enc:TypeId×Value->H}{W:World}{base fuel:Nat}{held:Bool}{a1:Option Addr}{len1 cap1:Nat}{x:DataW H×List MemPlace}
  (hv:∀a,a1=some a->a.spot=none/\a.block<W.heap.size)(h:DataW.trod enc prog W base (λ_=>true) held fuel 23 [.slice a1 len1 cap1]=some x):∃L,ArgP W (.slice a1 len1 cap1) L/\L.length=len1:=by
 rcases open_slice underlying23 h with⟨hcs,_⟩|⟨a,len,cap,m,n,D,Pl,hcs,_,hl,hm,hmm,_,hi⟩
 .simp at hcs
  obtain⟨rfl,rfl,rfl⟩:=hcs;exact⟨[],⟨SlC.nil _ _,λo q=>by cases q⟩,rfl⟩
 .simp at hcs
  obtain⟨rfl,rfl,rfl⟩:=hcs;simp only[if_true]at hmm;obtain⟨b,off,spot⟩:=a;obtain⟨rfl,hb⟩:spot=none/\b<W.heap.size:=hv _ rfl
  have each:∀i,∃z:OpF,z.ok/\(i<len1->W.cell? ⟨b,off+i*3,none⟩=some (.int .i64 z.k)/\W.cell? ⟨b,off+i*3+1,none⟩=some (.int .u32 (z.id:Nat))/\W.cell? ⟨b,off+i*3+2,none⟩=some (.int .u64 (z.v:Nat))):=by
   intro i;by_cases hil:i<len1
   .obtain⟨cs,hc,ht⟩:=hi i (by omega)
    rw[C9]at hc;obtain⟨_,hlen,hat⟩:=World.cells?_some hc;obtain⟨y0,y1,y2,n',_,t0,t1,t2⟩:=EW underlying50 ht
    match cs,hlen with
    |[v0,v1,v2],_=>
     have g0:=hat 0 (by omega);have g1:=hat 1 (by omega);have g2:=hat 2 (by omega);rw[Ct]at g0 g1 g2;simp only[Dp,CB,Cb,List.drop_zero,List.drop_succ_cons,List.take_succ_cons,List.take_zero]at t0 t1 t2;obtain⟨z0,e0,_,wf0⟩:=DataW.trod_int underlying3 t0;obtain⟨z1,e1,_,wf1⟩:=DataW.trod_int underlying34 t1;obtain⟨z2,e2,_,wf2⟩:=DataW.trod_int underlying27 t2;obtain⟨m1,rfl,b1⟩:=uH wf1 rfl;obtain⟨m2,rfl,b2⟩:=uH wf2 rfl;simp at e0 e1 e2;subst e0 e1 e2;simp only[Lit.wf,Bool.and_eq_true,decide_eq_true_eq,IntKind.min,IntKind.max,IntKind.bits,IntKind.signed]at wf0;simp[IntKind.max,IntKind.bits,IntKind.signed]at b1 b2;exact⟨⟨z0,m1,m2⟩,⟨by show m1<_;omega,by show m2<_;omega,by have:=wf0.1;simp at this;exact this,by have:=wf0.2;simp at this;exact this⟩,λ_=>⟨g0,g1,g2⟩⟩
   .exact⟨⟨0,0,0⟩,⟨by decide,by decide,by decide,by decide⟩,λh=>(hil h).elim⟩
  obtain⟨f,hf⟩:=Classical.skolem.1 each;have hL:((List.range len1).map f).length=len1:=by simp
  refine⟨(List.range len1).map f,⟨⟨_,cap1,by rw[hL],by rw[pY],yx _,by rw[hL];exact hl,hm,.inr ⟨b,off,rfl,hb,λj u hj=>?_⟩⟩,λo ho=>?_⟩,hL⟩
  .refine zz (P:=λj u=>W.cell? ⟨b,off+j,none⟩=some u) (λi q=>?_) hj
   rw[hL]at q;have:=(hf i).2 q;simp only[List.getElem_map,List.getElem_range];exact this
  .obtain⟨i,_,rfl⟩:=List.mem_map.1 ho
   exact(hf i).1
end
namespace crashWhole
theorem z9:prog.cellsOf 3=1:=by kernel_rfl
theorem yW:prog.cellsOf 22=2:=by kernel_rfl
theorem Gz{α:Type}(l:List α)(h:(⟨l⟩:Array α).size=2):∃a b,l=[a,b]:=by
 match l,h with
 |[a,b],_=>exact⟨a,b,rfl⟩
theorem p9{H:Type}{enc:TypeId×Value->H}{P:Program}{w:World}{base:Nat}{spare:Nat->Bool}{held:Bool}{t e:TypeId}{fuel:Nat}{c0 c1:Value}{x:DataW H×List MemPlace}(ht:P.underlying t=some (.array 2 e))(hce:P.cellsOf e=1)
  (h:DataW.trod enc P w base spare held fuel t [c0,c1]=some x):
  ∃y0 y1 n,x=(.agg [y0.1,y1.1],y0.2++y1.2)/\DataW.trod enc P w base spare held n e [c0]=some y0/\DataW.trod enc P w base spare held n e [c1]=some y1:=by
 cases fuel with
 |zero=>simp[DataW.trod]at h
 |succ n=>
  unfold DataW.trod at h;rw[ht]at h;have r2:List.range 2=[0,1]:=rfl;simp[r2,hce]at h;obtain⟨_,h⟩:=h
  cases h0:DataW.trod enc P w base spare held n e [c0]with
  |none=>simp[h0]at h
  |some y0=>
   cases h1:DataW.trod enc P w base spare held n e [c1]with
   |none=>simp[h0,h1]at h
   |some y1=>
    simp[h0,h1]at h;exact⟨y0,y1,n,h.symm,h0,h1⟩
theorem GE{H:Type}{enc:TypeId×Value->H}{W:World}{base:Nat}{sp:Nat->Bool}{held:Bool}{v:Value}{d:DataW H}{p:List MemPlace}(hval:Value.okWide prog W .any base 22 v)(h:DataW.Trod enc prog W 0 sp held 22 v d p):
  ∃x0 x1:Int,v=.agg #[.int .i64 x0,.int .i64 x1]/\d=.agg [.lit (.int .i64 x0),.lit (.int .i64 x1)]/\p=[]/\(Lit.int .i64 x0).wf=true/\(Lit.int .i64 x1).wf=true:=by
 obtain⟨cs,rfl,hsz,_⟩:∃cs,v=.agg cs/\cs.size=prog.cellsOf 22/\Row.okWide prog W .any base 22 cs:=by
  simpa[Value.okWide,underlying22]using hval
 rw[yW]at hsz;obtain⟨l⟩:=cs;obtain⟨c0,c1,rfl⟩:=Gz l hsz;obtain⟨fuel,hf⟩:=h;obtain⟨y0,y1,m,hx,hy0,hy1⟩:=p9 underlying22 z9 hf;obtain⟨x0,e0,rfl,w0⟩:=DataW.trod_int underlying3 hy0;obtain⟨x1,e1,rfl,w1⟩:=DataW.trod_int underlying3 hy1;simp at e0 e1;subst e0 e1;simp only[Prod.mk.injEq]at hx;obtain⟨rfl,rfl⟩:=hx;exact⟨x0,x1,rfl,rfl,rfl,w0,w1⟩
theorem Gq{H:Type}{enc:TypeId×Value->H}(W:World)(base:Nat)(sp:Nat->Bool)(held:Bool){x0 x1:Int}(w0:(Lit.int .i64 x0).wf=true)(w1:(Lit.int .i64 x1).wf=true):
  DataW.Trod enc prog W base sp held 22 (.agg #[.int .i64 x0,.int .i64 x1]) (.agg [.lit (.int .i64 x0),.lit (.int .i64 x1)]) []:=
 ⟨2,by simp[DataW.trod,Value.cells,underlying22,underlying3,z9,yW,w0,w1,List.range,List.range.loop]⟩
theorem lifted(os:Os)(started:os.Started)(H:Type)(enc:TypeId×Value->H):
  ReturnsInHanded {} Tryz.checked os 3 .any (λw args=>(Rows.crashWholeSpec.pre enc prog Tryz.f3 Rows.crashWholeRow.domain false w args/\laidMet prog Rows.crashWholeRow.laid w)/\sizedMet enc prog Tryz.f3 (OpenSpec.ofChange Rows.crashWholeSpec) false w args)
   (Rows.crashWholeSpec.post enc prog Tryz.f3 false true false false):=by
 refine returnsInHanded_of_change_and (C:=Tryz.checked) (X:=λw _=>laidMet prog Rows.crashWholeRow.laid w) (λ_ _ _ hh h=>h.of_heap hh) GW started (by kernel_rfl) func3
  (ChangeSpec.witness_at (enc:=enc) (C:=Tryz.checked) (os:=os) (X:=λw _=>laidMet prog Rows.crashWholeRow.laid w) false (qA os) #[.agg #[.int .i64 0,.int .i64 0],.slice none 0 0] 8 rfl (by kernel_rfl) (by kernel_rfl) (by kernel_rfl) (by kernel_rfl) (by kernel_rfl) (Co os _)) ?_
 intro W base args ds gs before hval0 hW _ _ hL _;have hval:∀(j:Nat) t v,Tryz.f3.params[j]?=some t->args[j]?=some v->Value.okWide prog W .any base t v:=hval0;have hW':=hW;obtain⟨p,q,hA0,hV,rfl,hfz,hnd⟩:=hW;have hA:DataW.TrodAll enc prog W 0 (λ_=>true) true Tryz.f3.params.toList args.toList ds p:=hA0;rw[Tryz.params3]at hA hval;obtain⟨v0,vs0,d0,ds0,p0,q0,hargs,rfl,rfl,h0,r0⟩:=trodAll_cons hA;obtain⟨v1,vs1,d1,ds1,p1,q1,rfl,rfl,rfl,h1,r1⟩:=trodAll_cons r0;obtain⟨rfl,rfl,rfl⟩:=trodAll_nil r1;obtain rfl:args=#[v0,v1]:=by cases args;simp_all
 obtain⟨rfl,rfl⟩:=trodVars_none hV;obtain⟨x0,x1,rfl,rfl,rfl,w0,w0'⟩:=GE (hval 0 22 v0 rfl rfl) h0;obtain⟨a1,len1,cap1,rfl⟩:=okWide_slice underlying23 (hval 1 23 v1 rfl rfl);have hv1:∀a,a1=some a->a.spot=none/\a.block<W.heap.size:=λa e=>by subst e;exact su underlying23 (hval 1 23 _ rfl rfl)
 have k1:=h1;have lt1:∀x∈p1,x.block<W.heap.size:=by obtain⟨m,hm⟩:=k1;exact DataW.trod_lt m _ _ _ hm
 obtain⟨zs,wz⟩:∃zs,ArgP W (.slice a1 len1 cap1) zs:=by
  obtain⟨fuel,hf⟩:=h1;obtain⟨zs,k,_⟩:=Cp hv1 hf;exact⟨zs,k⟩
 clear hA0 hval0;have hT:dE W:=C4 hL;simp only[List.append_nil,List.nil_append]at hW';refine(o7 x0 x1 _ zs W wz.1 wz.2 hT).mono λe W' ⟨he,hf⟩=>?_
 have bel:=hf.below;subst he;exact⟨_,rfl,_,_,_,[],_,[],hW',trodAll_mk1 (shut_bool underlying4 _),(trodAll_cons_mk (Gq W' _ _ _ w0 w0') (trodAll_cons_mk (Below.trod Ak (by kernel_rfl) (of_decide_eq_true (by kernel_rfl)) k1 bel lt1) trodAll_mk0)),rfl,bel.frame _,λh=>by cases h⟩
theorem said:Rows.CrashWholeSaid:=
 OpenClaim.holds_of_wide 3 Tryz.f3 rfl rfl rfl rfl rfl rfl rfl ⟨rfl,rfl,rfl,rfl,rfl⟩ rfl rfl rfl rfl rfl (by kernel_rfl) func3 (by kernel_rfl)
  (of_decide_eq_true (by kernel_rfl)) (by unfold Func.isWrapper;first|(rw[if_pos (by decide+kernel)];kernel_rfl)|(rw[if_neg (by decide+kernel)];exact⟨rfl,rfl⟩))
  (λos started H enc _=>lifted os started H enc)
theorem proved:Rows.CrashWholeCardSaid:=
 Claim7.holds_tied_plain_at .later [] [.data] true (true, "99ee563aca6a7084c4f1897ba00dd9f31f89e3f881e5bfa6a5a3e7c19587da1c") true
  said (λ_ h=>by cases h) (by kernel_rfl) (λ_ h=>by cases h) crashWhole_row_tie rfl ⟨rfl,rfl⟩ (by kernel_rfl) rfl
  (λf fn hf hfn=>by
   obtain rfl:f=3:=Option.some.inj ((show prog.funcNamed "hatcheck/hatchecklaw12.CrashWhole" =some 3 by kernel_rfl).symm.trans hf)|>.symm
   obtain rfl:fn=Tryz.f3:=(Option.some.inj (func3.symm.trans hfn)).symm
   exact⟨by kernel_rfl,λj t ht=>by
    rw[Tryz.params3]at ht
    have h3:t=22\/t=23:=by
     rcases j with _|_|j
     .left;simpa using ht.symm
     .right;simpa using ht.symm
     .simp at ht
    rcases h3 with rfl|rfl
    .exact(show prog.wantsStandIn 22=false by kernel_rfl)
    .exact(show prog.wantsStandIn 23=false by kernel_rfl)⟩)
  (by kernel_rfl)
#print axioms proved
end crashWhole
end
end Go.Proofs.YtoenclhimbpfeaaGreatDoor
