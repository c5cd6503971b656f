/- Part 30. -/
import Derived.Test.YtkjhnllcphidpaaGreatDoorM29
namespace Go.Proofs.YtkjhnllcphidpaaGreatDoor
set_option linter.all false
set_option maxHeartbeats 16000000
set_option maxRecDepth 100000
section
open Go.Proofs.Tryz Go.RowKit
def insG(l:List Pg)(k:Nat):List Pg:=l.take k++[⟨k+1,0,1⟩]++l.drop k
structure gZ(l:List Pg)(k:Nat):Prop where
 le:k<=l.length
 all:∀j (hj:j<l.length),j<k->l[j].id=j+1
 not:∀hk:k<l.length,¬l[k].id=k+1
section
variable{w w0 w':World}{r n room:Nat}{l:List Pg}{lv v:Value}
theorem vL{v:Value}{w:World}{l:List Pg}{base n:Nat}(hn:n=l.length)(h:w.ownsRow base 56 3 v n (gC l)):SlF w 56 3 v l.length (gF l):=by
 subst hn;unfold SlF;rw[tV];obtain⟨o1,o2⟩:=h;refine⟨o1,o2.imp _root_.id ?_⟩;rintro⟨g,cap,cur,e1,hg,r⟩;exact⟨g,cap,cur,e1,Nat.zero_le _,r⟩
theorem RG.slc(h:RG w r n room l lv):SlC w 3 lv l.length (gC l):=by
 have h1:w.ownsRow 0 56 3 lv l.length (gC l):=by have:=h.hl;unfold SlF at this;rw[tV]at this;exact this
 exact SlC.ofOwn h1 (dn l)
theorem m9{g off c:Nat}{l:List Pg}(h:SlC w 3 (.slice (some ⟨g,off,none⟩) l.length c) l.length (gC l)){k:Nat}(hk:k<=l.length)(hc:0<c):SlC w 3 (.slice (some ⟨g,off,none⟩) k c) k (gC (l.take k)):=by
 obtain⟨b',o',e,h1⟩:=SlC.cut (lo:=0) (hi:=k) h (by omega) hk rfl hc;simp only[Option.some.injEq,Addr.mk.injEq]at e;obtain⟨rfl,rfl,_⟩:=e;simp only[Nat.zero_mul,Nat.add_zero,Nat.sub_zero,List.drop_zero]at h1;rw[BS]at h1;exact h1
theorem pN{g off c:Nat}{l:List Pg}(h:SlC w 3 (.slice (some ⟨g,off,none⟩) l.length c) l.length (gC l)){k:Nat}(hk:k<=l.length)(hc:k<c):SlC w 3 (.slice (some ⟨g,off+k*3,none⟩) (l.length-k) (c-k)) (l.length-k) (gC (l.drop k)):=by
 obtain⟨b',o',e,h1⟩:=SlC.cut (lo:=k) (hi:=l.length) h hk (Nat.le_refl _) rfl hc;simp only[Option.some.injEq,Addr.mk.injEq]at e;obtain⟨rfl,rfl,_⟩:=e;rw[A6,List.take_of_length_le (by rw[gT,List.length_drop];omega)]at h1;exact h1
theorem RG.setL(h:RG w r n room l lv){l':List Pg}{v6:Value}{w6:World}{m:Nat}(hm:m=l'.length)(ho:w6.ownsRow w.heap.size 56 3 v6 m (gC l'))(f:Fr NoF w w6)(hl:l'.length<=65535)(hok:∀p∈l',hO p.id/\okV p.v/\p.pins<1000000):
  RG (w6.setCell ⟨r,2,none⟩ v6) r n room l' v6/\Fr (λi=>i=r) w (w6.setCell ⟨r,2,none⟩ v6):=by
 have hob:=ap ho;have hlt:=h.hd.lt;have hs:=vL hm ho;have h6:=h.fr0 f;have f6:Fr (λi=>i=r) w6 (w6.setCell ⟨r,2,none⟩ v6):=(Fr.refl (λi=>i=r) w6).setCell (p:=⟨r,2,none⟩) (.inl rfl) _;refine⟨⟨(h6.hd.set 2 v6).congr (λi hi=>?_),hs.fr f6 (λb q e=>by have:=hob b q;omega),λi q=>by have:=hob i q;omega,⟨hl,h.b1.2⟩,hok⟩,(f.mono (λ_ q=>q.elim)).trans f6 (λi q=>.inl q)⟩
 match i,hi with
 |0,_=>rfl
 |1,_=>rfl
 |2,_=>rfl
theorem kH(l:List Pg){k:Nat}(hk:k<=l.length):(insG l k).length=l.length+1:=by unfold insG;simp;omega
theorem BE{l:List Pg}{k:Nat}(h:∀p∈l,hO p.id/\okV p.v/\p.pins<1000000)(hk:k<=65535):∀p∈insG l k,hO p.id/\okV p.v/\p.pins<1000000:=by
 intro p hp;unfold insG at hp;rcases List.mem_append.1 hp with q|q
 .rcases List.mem_append.1 q with q|q
  .exact h p (List.mem_of_mem_take q)
  .simp at q;subst q;exact⟨by unfold hO;show k+1<_;omega,by unfold okV;show 0<_;omega,by show 1<1000000;omega⟩
 .exact h p (List.mem_of_mem_drop q)
theorem RG.ins(h:RG w r n room l lv){k:Nat}(hk:k<=l.length)(hb2:l.length+1<=65535){v6:Value}{w6:World}(ho:w6.ownsRow w.heap.size 56 3 v6 (k+1+(l.length-k)) ((gC (l.take k)++[.int .u32 ((k:Int)+1),.int .u64 0,.int .i64 1])++gC (l.drop k)))(f:Fr NoF w w6):
  RG (w6.setCell ⟨r,2,none⟩ v6) r n room (insG l k) v6/\Fr (λi=>i=r) w (w6.setCell ⟨r,2,none⟩ v6):=by
 have e:((gC (l.take k)++[.int .u32 ((k:Int)+1),.int .u64 0,.int .i64 1])++gC (l.drop k))=gC (insG l k):=by unfold insG;rw[lH,lH];rfl
 rw[e]at ho;exact h.setL (by rw[kH l hk];omega) ho f (by rw[kH l hk];omega) (BE h.ok (by omega))
theorem mw(h:RG w r n room l lv)(hf:n<=pinL l):Calls prog 50 #[.pointer (some ⟨r,0,none⟩)] w λe w'=>e=.returned (.agg #[.int .i64 6,.int .u32 0,.int .u64 0])/\Fr NoF w w':=by
 have HFU:=Hd (bN (h.fr0 ((Fr.refl NoF w).alloc (.cells #[.int .i64 0,.int .u32 0,.int .u64 0] 44))));rw[show decide (n<=pinL l)=true from by simpa using hf]at HFU;clear h hf;go_enter func50,ntmps50
 go_wp2_with fail
 refine HFU.out.mono ?_;rintro e w1⟨rfl,rfl⟩;go_wp2
 (try simp only[Exit.inBlock,Exit.then])
 refine bodyPost_ret (af Tryz.results50 _ _ (bt w _ _ _) rfl underlying44 rfl (by kernel_rfl)) rfl ?_;exact⟨rfl,(Fr.refl NoF w).alloc _⟩
theorem rW(h:RG w r n room l lv)(hf:¬n<=pinL l)(hr:room<=l.length):Calls prog 50 #[.pointer (some ⟨r,0,none⟩)] w λe w'=>e=.returned (.agg #[.int .i64 2,.int .u32 0,.int .u64 0])/\Fr NoF w w':=by
 have HFU:=Hd (bN (h.fr0 ((Fr.refl NoF w).alloc (.cells #[.int .i64 0,.int .u32 0,.int .u64 0] 44))));rw[show decide (n<=pinL l)=false from by simpa using hf]at HFU;have c1:=h.c1;have c2:=h.c2;have lr:=h.hd.lt;obtain⟨va,vc,rfl,_,_⟩:=h.hl.shape;have hd:decide (room<=l.length)=true:=by simpa using hr
 clear h hf;go_enter func50,ntmps50
 go_wp2_with fail
 refine HFU.out.mono ?_;rintro e w1⟨rfl,rfl⟩;go_wp2
 go_region
 go_wp2
 (try simp only[Exit.inBlock,Exit.then])
 refine bodyPost_ret (af Tryz.results50 _ _ (bt w _ _ _).drew rfl underlying44 rfl (by kernel_rfl)) rfl ?_;exact⟨rfl,((Fr.refl NoF w).alloc _).drew⟩
theorem Ej{w:World}{v:Value}{l:List Pg}(h:SlC w 3 v l.length (gC l)){k:Nat}(hk:k<l.length):∃b off c,v=.slice (some ⟨b,off,none⟩) l.length c/\l.length<=c/\c<=maxLen/\b<w.heap.size/\w.cell? ⟨b,off+k*3,none⟩=some (.int .u32 (l[k].id:Nat)):=by
 obtain⟨b,off,c,e,h1,h2,h3,h4⟩:=SlC.at h hk (by omega);exact⟨b,off,c,e,h1,h2,h3,h4 _ _ (ya l hk).1⟩
theorem sq{g off cc:Nat}(h:RG w r n room l (.slice (some ⟨g,off,none⟩) l.length cc))(hf:¬n<=pinL l)(hr:l.length<room):Calls prog 50 #[.pointer (some ⟨r,0,none⟩)] w λe w'=>∃k,gZ l k/\e=.returned (.agg #[.int .i64 0,.int .u32 (k+1:Nat),.int .u64 0])/\(∃lv',RG w' r n room (insG l k) lv'/\∀i,GFr r lv' i->GFr r (.slice (some ⟨g,off,none⟩) l.length cc) i\/w.heap.size<=i)/\Fr (λk=>k=r) w w':=by
 have fA:Fr NoF w (w.alloc (.cells #[.int .i64 0,.int .u32 0,.int .u64 0] 44)):=(Fr.refl NoF w).alloc _;have HFU:=Hd (bN (h.fr0 fA));rw[show decide (n<=pinL l)=false from by simpa using hf]at HFU;have ha:=h.fr0 fA;have hbb:=h.b1;have hlr:decide (room<=l.length)=false:=by simp;omega
 have hll:l.length<=65535:=by omega
 have hrm:room<=65535:=hbb.2.2;have HRB:=Hd (bt w (.int .i64 0) (.int .u32 0) (.int .u64 0) (t:=44));have HFA:=Hd fA;have hsa:w.heap.size<(w.alloc (.cells #[.int .i64 0,.int .u32 0,.int .u64 0] 44)).heap.size:=by simp
 have HRN:=Hd (h.lt r (.inl rfl));have lbw:=h.hd.lt;have KG:Hid (∀i,GFr r (.slice (some ⟨g,off,none⟩) l.length cc) i->i<w.heap.size):=h.lt;clear h hf fA;go_enter func50,ntmps50
 go_wp2_with fail
 refine HFU.out.mono ?_;clear HFU;rintro e w1⟨rfl,rfl⟩;generalize(w.alloc (.cells #[.int .i64 0,.int .u32 0,.int .u64 0] 44))=wa at*;generalize hrb:w.heap.size=rb at*;have HRB0:=Hd hrb;clear hrb;have c1:=ha.c1;have c2:=ha.c2;have lb:=ha.hd.lt;have f2:=ha.hd.frozen 2;have HH:=Hd ha;have HS:=Hd ha.slc;have KC:Hid (∀W,Fr NoF wa W->W.cell? ⟨r,2,none⟩=some (.slice (some ⟨g,off,none⟩) l.length cc)/\W.frozen? ⟨r,2,none⟩=false/\r<W.heap.size):=λW f=>⟨(ha.fr0 f).c2,(ha.fr0 f).hd.frozen 2,(ha.fr0 f).hd.lt⟩
 have hcc:l.length<=cc/\cc<=9223372036854775807:=by
  obtain⟨a',c',e,q1,q2⟩:=ha.hl.shape;simp only[Value.slice.injEq]at e;obtain⟨_,_,rfl⟩:=e;unfold maxLen at q2;exact⟨q1,q2⟩
 have hc1:=hcc.1;have hc2:=hcc.2;have lg:=ha.hl.lt g rfl
 have HFI:Hid (∀k,k<=l.length->∀W,Fr NoF wa W->SlC W 3 (.slice (some ⟨g,off,none⟩) k cc) k (gC (l.take k))):=by
  intro k hk W f;by_cases q:cc=0
  .subst q
   obtain rfl:k=0:=by omega
   exact⟨_,_,rfl,rfl,λu hu=>(by simp[gC]at hu),Nat.le_refl _,by unfold maxLen;omega,.inr ⟨g,off,rfl,Nat.lt_of_lt_of_le lg f.size,λj u hj=>(by simp[gC]at hj)⟩⟩
  .exact m9 (HS.out.keep f) hk (by omega)
 have HLA:Hid (∀k,k<=l.length->k<cc->∀W,Fr NoF wa W->SlC W 3 (.slice (some ⟨g,off+k*3,none⟩) (l.length-k) (cc-k)) (l.length-k) (gC (l.drop k))):=λk hk q W f=>pN (HS.out.keep f) hk q
 have HLG:=Hd lg;clear hcc lg hbb ha;go_wp2
 go_region
 go_wp2
 go_loopw [3,4] (λkk i wr=>∃k:Nat,k<=l.length/\i=.int .u32 ((k+1:Nat):Int)/\kk=.int .i64 k/\wr=wa.drew/\Hid (∀j (hj:j<l.length),j<k->l[j].id=j+1)) (λkk _ _=>l.length-(intOf kk).toNat)
 case atStart=>exact⟨0,Nat.zero_le _,rfl,rfl,rfl,λj _ hj=>(by omega)⟩
 case round=>
  obtain⟨k,hk,rfl,rfl,rfl,HN⟩:=hrel;by_cases hlt2:k<l.length
  .obtain⟨b',off',c',ev,_,_,hb,cy⟩:=Ej HS.out hlt2
   simp only[Value.slice.injEq,Option.some.injEq,Addr.mk.injEq]at ev;obtain⟨⟨rfl,rfl,_⟩,_,rfl⟩:=ev;by_cases he:l[k].id=k+1
   .have HE:=Hd he
    rw[he]at cy;have hcw:IntKind.u32.wrap ((k:Int)+1+1)=(k:Int)+1+1:=IntWalk.u32_in _ (by omega);clear he;go_wp2
    go_roundw
    case rel=>
     refine⟨k+1,by omega,by go_num,by go_num,by first|rfl|trivial,λj hj hjk=>?_⟩;by_cases e:j=k
     .subst e;exact HE.out
     .exact HN.out j hj (by omega)
    case measure=>simp[intOf]<;>omega
   .have HE:=Hd he
    have hne:¬((l[k].id:Nat):Int)=(k:Int)+1:=λq=>he (by omega)
    clear he;generalize hy:l[k].id=y at cy hne;have HY:=Hd hy;have hbq:((y:Int)==(k:Int)+1)=false:=by simpa using hne
    clear hy hne;have HG:Hid (gZ l k):=⟨hk,HN.out,λq=>HE.out⟩;have HFK:=Hd (HFI.out k hk)
    obtain⟨AD,hAD,hLA2⟩:∃AD,(if cc=k then some ⟨g,off,none⟩else some ⟨g,off+k*3,none⟩)=AD/\Hid (∀W,Fr NoF wa W->SlC W 3 (.slice AD (l.length-k) (cc-k)) (l.length-k) (gC (l.drop k))):=by
     by_cases q:cc=k
     .refine⟨_,rfl,λW f=>?_⟩
      rw[if_pos q];have e1:l.length-k=0:=by omega
      have e2:l.drop k=[]:=List.drop_of_length_le (by omega);have e3:cc-k=0:=by omega
      rw[e1,e2,e3];exact⟨_,_,rfl,rfl,λu hu=>(by cases hu),Nat.le_refl _,by unfold maxLen;omega,.inr ⟨g,off,rfl,Nat.lt_of_lt_of_le HLG.out f.size,λj u hj=>(by simp[gC]at hj)⟩⟩
     .exact⟨_,rfl,λW f=>by rw[if_neg q];exact HLA.out k hk (by omega) W f⟩
    have HOW:Hid (∀W,Fr NoF wa W->∀g,g=W.heap.size->(W.alloc (.cells #[] 56)).ownsRow wa.heap.size 56 3 (.slice (some ⟨g,0,none⟩) 0 0) 0 []):=λW f g q=>cB f.size #[] 56 3 0 _ q rfl (by unfold maxLen;omega)
    have fd:Fr NoF wa wa.drew:=(Fr.refl NoF wa).drew;have HFD:=Hd fd;have hkI:0<=(k:Int):=by omega
    have hkl:(k:Int)<=(l.length:Int):=by omega
    have hkc:k<=cc:=by omega
    have hsb:k+1+(l.length-k)<=65536:=by omega
    clear fd hb
    go_wp2_with(at_builtin;go_must(refine kT (base:=wa.heap.size) EIG rfl _ _ rfl (by rfl) (by rfl) (by simp<;>omega) (HOW.out _ HFD.out wa.heap.size (by simp)) (HFK.out _ (HFD.out.alloc _)) (by unfold maxLen;omega) (by omega) ?_);intro v5 w5 hown5 hf5 hob5;rw[Nat.zero_add,List.nil_append]at hown5;obtain⟨a5,c5,rfl,_,_⟩:=(SlC.ofOwn hown5 (dn _)).shape;have HO5:=Hd hown5;have HF5:Hid (Fr NoF wa w5):=Fr.trans (F:=NoF) (a:=wa) (((Fr.refl NoF wa).drew).alloc _) hf5 (λi q=>.inr (by cases q;exact Nat.le_refl _));obtain⟨x1,x2,x3⟩:=KC.out w5 HF5.out;have hs5:=HF5.out.size;clear hown5 hf5 hob5)
    have HNW:Hid (∀W,Fr NoF (w5.alloc (.cells #[.int .u32 ((k:Int)+1),.int .u64 0,.int .i64 1] 56)) W->SlC W 3 (.slice (some ⟨w5.heap.size,0,none⟩) 1 1) 1 [.int .u32 ((k:Int)+1),.int .u64 0,.int .i64 1]):=λW f=>(SlC.ofOwn (cB (w0:=w5) (Nat.le_refl _) #[.int .u32 ((k:Int)+1),.int .u64 0,.int .i64 1] 56 3 1 _ rfl rfl (by unfold maxLen;omega)) (by simp[Value.oneCell'])).keep f
    have HO5K:Hid (∀W,Fr NoF w5 W->W.ownsRow wa.heap.size 56 3 (.slice a5 k c5) k (gC (l.take k))):=λW f=>aW HO5.out f (λ_ _ q=>q)
    go_region_law(first
     |(refine fY (base:=wa.heap.size) EIG rfl (.tmp 52) (.tmp 55) rfl (by rfl) (by rfl) (by simp;try omega) (HO5K.out _ (by repeat(first|exact Fr.refl NoF _|apply Fr.drew|apply Fr.alloc))) (HNW.out _ (by repeat(first|exact Fr.refl NoF _|apply Fr.drew|apply Fr.alloc))) (by unfold maxLen;omega) (by omega) ?_;intro v6 w6 hown6 hf6 hob6;obtain⟨a6,c6,rfl,_,_⟩:=(SlC.ofOwn hown6 (λu hu=>by rcases List.mem_append.1 hu with q|q;exact dn _ u q;simp at q;rcases q with rfl|rfl|rfl<;>rfl)).shape;have HO6:=Hd hown6;have HF6:Hid (Fr NoF wa w6):=Fr.trans (F:=NoF) (a:=wa) (by repeat(first|exact HF5.out|apply Fr.drew|apply Fr.alloc)) hf6 (λi q=>.inr (ap HO5.out i q));obtain⟨y1,y2,y3⟩:=KC.out w6 HF6.out;have hs6:=HF6.out.size;clear hown6 hf6 hob6)
     |(refine fY (base:=wa.heap.size) EIG rfl (.tmp 56) (.tmp 62) rfl (by rfl) (by rfl) hs6 HO6.out (hLA2.out _ HF6.out) (by unfold maxLen;omega) (by omega) ?_;intro v7 w7 hown7 hf7 hob7;obtain⟨a7,c7,rfl,_,_⟩:=(SlC.ofOwn hown7 (λu hu=>by rcases List.mem_append.1 hu with q|q;rcases List.mem_append.1 q with q|q;exact dn _ u q;simp at q;rcases q with rfl|rfl|rfl<;>rfl;exact dn _ u q)).shape;have HO7:=Hd hown7;have HF7:=Hd (HF6.out.trans hf7 (λi q=>.inr (ap HO6.out i q)));obtain⟨z1,z2,z3⟩:=KC.out w7 HF7.out;clear hown7 hf7 hob7))
    all_goals
     have RB7:=HRB.out.fr HF7.out (λq=>q);have t0:w7.cell? ⟨rb,0,none⟩=some (.int .i64 0):=RB7.cell (i:=0) (by omega);have t1:w7.cell? ⟨rb,1,none⟩=some (.int .u32 0):=RB7.cell (i:=1) (by omega);have t2:w7.cell? ⟨rb,2,none⟩=some (.int .u64 0):=RB7.cell (i:=2) (by omega);have g0:=RB7.frozen 0;have g1:=RB7.frozen 1;have g2:=RB7.frozen 2;have lr:=RB7.lt;have HRB7:=Hd RB7;have hne:¬rb=r:=by omega
     have hne2:¬r=rb:=by omega
     clear RB7;go_wp2;obtain⟨r1,r2⟩:=HH.out.ins HG.out.le (by omega) HO7.out HF7.out;have RB:=HRB7.out.other (a:=⟨r,2,none⟩) hne (.slice a7 (k+1+(l.length-k)) c7);have RS:=((RB.set 0 (.int .i64 0)).set 1 (.int .u32 ((k:Int)+1))).set 2 (.int .u64 0);have FS:=(((Fr.refl (λi=>i=rb) (w7.setCell ⟨r,2,none⟩ (.slice a7 (k+1+(l.length-k)) c7))).setCell (p:=⟨rb,0,none⟩) (.inl rfl) (.int .i64 0)).setCell (p:=⟨rb,1,none⟩) (.inl rfl) (.int .u32 ((k:Int)+1))).setCell (p:=⟨rb,2,none⟩) (.inl rfl) (.int .u64 0);have hov:=ap HO7.out;have hw0:=HRB0.out
     (try simp only[Exit.inBlock,Exit.then])
     refine bodyPost_ret (af Tryz.results50 _ _ RS rfl underlying44 rfl (by kernel_rfl)) rfl ?_;refine⟨k,HG.out,rfl,⟨_,r1.fr FS (λi q e=>?_),λi q=>?_⟩,((HFA.out.mono (λ_ q=>q.elim)).trans r2 (λi q=>.inl q)).trans FS (λi q=>.inr (by omega))⟩
     .rcases q with q|q
      .omega
      .have:=hov i q;omega
     .rcases q with q|q
      .exact .inl (.inl q)
      .right;have:=hov i q;omega
  .have hge:decide (k<l.length)=false:=by simpa using hlt2
   have HG:Hid (gZ l k):=⟨hk,HN.out,λq=>absurd q hlt2⟩;have HFK:=Hd (HFI.out k hk)
   obtain⟨AD,hAD,hLA2⟩:∃AD,(if cc=k then some ⟨g,off,none⟩else some ⟨g,off+k*3,none⟩)=AD/\Hid (∀W,Fr NoF wa W->SlC W 3 (.slice AD (l.length-k) (cc-k)) (l.length-k) (gC (l.drop k))):=by
    by_cases q:cc=k
    .refine⟨_,rfl,λW f=>?_⟩
     rw[if_pos q];have e1:l.length-k=0:=by omega
     have e2:l.drop k=[]:=List.drop_of_length_le (by omega);have e3:cc-k=0:=by omega
     rw[e1,e2,e3];exact⟨_,_,rfl,rfl,λu hu=>(by cases hu),Nat.le_refl _,by unfold maxLen;omega,.inr ⟨g,off,rfl,Nat.lt_of_lt_of_le HLG.out f.size,λj u hj=>(by simp[gC]at hj)⟩⟩
    .exact⟨_,rfl,λW f=>by rw[if_neg q];exact HLA.out k hk (by omega) W f⟩
   have HOW:Hid (∀W,Fr NoF wa W->∀g,g=W.heap.size->(W.alloc (.cells #[] 56)).ownsRow wa.heap.size 56 3 (.slice (some ⟨g,0,none⟩) 0 0) 0 []):=λW f g q=>cB f.size #[] 56 3 0 _ q rfl (by unfold maxLen;omega)
   have fd:Fr NoF wa wa.drew:=(Fr.refl NoF wa).drew;have HFD:=Hd fd;have hkI:0<=(k:Int):=by omega
   have hkl:(k:Int)<=(l.length:Int):=by omega
   have hkc:k<=cc:=by omega
   have hsb:k+1+(l.length-k)<=65536:=by omega
   clear fd hlt2
   go_wp2_with(at_builtin;go_must(refine kT (base:=wa.heap.size) EIG rfl _ _ rfl (by rfl) (by rfl) (by simp<;>omega) (HOW.out _ HFD.out wa.heap.size (by simp)) (HFK.out _ (HFD.out.alloc _)) (by unfold maxLen;omega) (by omega) ?_);intro v5 w5 hown5 hf5 hob5;rw[Nat.zero_add,List.nil_append]at hown5;obtain⟨a5,c5,rfl,_,_⟩:=(SlC.ofOwn hown5 (dn _)).shape;have HO5:=Hd hown5;have HF5:Hid (Fr NoF wa w5):=Fr.trans (F:=NoF) (a:=wa) (((Fr.refl NoF wa).drew).alloc _) hf5 (λi q=>.inr (by cases q;exact Nat.le_refl _));obtain⟨x1,x2,x3⟩:=KC.out w5 HF5.out;have hs5:=HF5.out.size;clear hown5 hf5 hob5)
   have HNW:Hid (∀W,Fr NoF (w5.alloc (.cells #[.int .u32 ((k:Int)+1),.int .u64 0,.int .i64 1] 56)) W->SlC W 3 (.slice (some ⟨w5.heap.size,0,none⟩) 1 1) 1 [.int .u32 ((k:Int)+1),.int .u64 0,.int .i64 1]):=λW f=>(SlC.ofOwn (cB (w0:=w5) (Nat.le_refl _) #[.int .u32 ((k:Int)+1),.int .u64 0,.int .i64 1] 56 3 1 _ rfl rfl (by unfold maxLen;omega)) (by simp[Value.oneCell'])).keep f
   have HO5K:Hid (∀W,Fr NoF w5 W->W.ownsRow wa.heap.size 56 3 (.slice a5 k c5) k (gC (l.take k))):=λW f=>aW HO5.out f (λ_ _ q=>q)
   go_region_law(first
    |(refine fY (base:=wa.heap.size) EIG rfl (.tmp 52) (.tmp 55) rfl (by rfl) (by rfl) (by simp;try omega) (HO5K.out _ (by repeat(first|exact Fr.refl NoF _|apply Fr.drew|apply Fr.alloc))) (HNW.out _ (by repeat(first|exact Fr.refl NoF _|apply Fr.drew|apply Fr.alloc))) (by unfold maxLen;omega) (by omega) ?_;intro v6 w6 hown6 hf6 hob6;obtain⟨a6,c6,rfl,_,_⟩:=(SlC.ofOwn hown6 (λu hu=>by rcases List.mem_append.1 hu with q|q;exact dn _ u q;simp at q;rcases q with rfl|rfl|rfl<;>rfl)).shape;have HO6:=Hd hown6;have HF6:Hid (Fr NoF wa w6):=Fr.trans (F:=NoF) (a:=wa) (by repeat(first|exact HF5.out|apply Fr.drew|apply Fr.alloc)) hf6 (λi q=>.inr (ap HO5.out i q));obtain⟨y1,y2,y3⟩:=KC.out w6 HF6.out;have hs6:=HF6.out.size;clear hown6 hf6 hob6)
    |(refine fY (base:=wa.heap.size) EIG rfl (.tmp 56) (.tmp 62) rfl (by rfl) (by rfl) hs6 HO6.out (hLA2.out _ HF6.out) (by unfold maxLen;omega) (by omega) ?_;intro v7 w7 hown7 hf7 hob7;obtain⟨a7,c7,rfl,_,_⟩:=(SlC.ofOwn hown7 (λu hu=>by rcases List.mem_append.1 hu with q|q;rcases List.mem_append.1 q with q|q;exact dn _ u q;simp at q;rcases q with rfl|rfl|rfl<;>rfl;exact dn _ u q)).shape;have HO7:=Hd hown7;have HF7:=Hd (HF6.out.trans hf7 (λi q=>.inr (ap HO6.out i q)));obtain⟨z1,z2,z3⟩:=KC.out w7 HF7.out;clear hown7 hf7 hob7))
   all_goals
    have RB7:=HRB.out.fr HF7.out (λq=>q);have t0:w7.cell? ⟨rb,0,none⟩=some (.int .i64 0):=RB7.cell (i:=0) (by omega);have t1:w7.cell? ⟨rb,1,none⟩=some (.int .u32 0):=RB7.cell (i:=1) (by omega);have t2:w7.cell? ⟨rb,2,none⟩=some (.int .u64 0):=RB7.cell (i:=2) (by omega);have g0:=RB7.frozen 0;have g1:=RB7.frozen 1;have g2:=RB7.frozen 2;have lr:=RB7.lt;have HRB7:=Hd RB7;have hne:¬rb=r:=by omega
    have hne2:¬r=rb:=by omega
    clear RB7;go_wp2;obtain⟨r1,r2⟩:=HH.out.ins HG.out.le (by omega) HO7.out HF7.out;have RB:=HRB7.out.other (a:=⟨r,2,none⟩) hne (.slice a7 (k+1+(l.length-k)) c7);have RS:=((RB.set 0 (.int .i64 0)).set 1 (.int .u32 ((k:Int)+1))).set 2 (.int .u64 0);have FS:=(((Fr.refl (λi=>i=rb) (w7.setCell ⟨r,2,none⟩ (.slice a7 (k+1+(l.length-k)) c7))).setCell (p:=⟨rb,0,none⟩) (.inl rfl) (.int .i64 0)).setCell (p:=⟨rb,1,none⟩) (.inl rfl) (.int .u32 ((k:Int)+1))).setCell (p:=⟨rb,2,none⟩) (.inl rfl) (.int .u64 0);have hov:=ap HO7.out;have hw0:=HRB0.out
    (try simp only[Exit.inBlock,Exit.then])
    refine bodyPost_ret (af Tryz.results50 _ _ RS rfl underlying44 rfl (by kernel_rfl)) rfl ?_;refine⟨k,HG.out,rfl,⟨_,r1.fr FS (λi q e=>?_),λi q=>?_⟩,((HFA.out.mono (λ_ q=>q.elim)).trans r2 (λi q=>.inl q)).trans FS (λi q=>.inr (by omega))⟩
    .rcases q with q|q
     .omega
     .have:=hov i q;omega
    .rcases q with q|q
     .exact .inl (.inl q)
     .right;have:=hov i q;omega
end
section
variable{w w0 w':World}{r n room:Nat}{l:List Pg}{lv v:Value}
theorem wY(h:RG w r n room l (.slice none 0 0))(hf:¬n<=pinL l)(hr:l.length<room):Calls prog 50 #[.pointer (some ⟨r,0,none⟩)] w λe w'=>∃k,gZ l k/\e=.returned (.agg #[.int .i64 0,.int .u32 (k+1:Nat),.int .u64 0])/\(∃lv',RG w' r n room (insG l k) lv'/\∀i,GFr r lv' i->GFr r (.slice none 0 0) i\/w.heap.size<=i)/\Fr (λk=>k=r) w w':=by
 have fA:Fr NoF w (w.alloc (.cells #[.int .i64 0,.int .u32 0,.int .u64 0] 44)):=(Fr.refl NoF w).alloc _;have HFU:=Hd (bN (h.fr0 fA));rw[show decide (n<=pinL l)=false from by simpa using hf]at HFU;have ha:=h.fr0 fA;have hbb:=h.b1
 have hz:l.length=0:=by
  obtain⟨a',c',e,q1,q2⟩:=h.hl.shape;simp only[Value.slice.injEq]at e;exact e.2.1.symm
 have hlr:decide (room<=0)=false:=by simp;omega
 have hr0:(room==0)=false:=by simp;omega
 have hr1:0<room:=by omega
 have HRB:=Hd (bt w (.int .i64 0) (.int .u32 0) (.int .u64 0) (t:=44));have HFA:=Hd fA;have hsa:w.heap.size<(w.alloc (.cells #[.int .i64 0,.int .u32 0,.int .u64 0] 44)).heap.size:=by simp
 have lbw:=h.hd.lt;have HG:Hid (gZ l 0):=⟨Nat.zero_le _,λj _ q=>by omega,λq=>by omega⟩;clear h hf fA;go_enter func50,ntmps50
 go_wp2_with fail
 refine HFU.out.mono ?_;clear HFU;rintro e w1⟨rfl,rfl⟩;generalize(w.alloc (.cells #[.int .i64 0,.int .u32 0,.int .u64 0] 44))=wa at*;generalize hrb:w.heap.size=rb at*;have HRB0:=Hd hrb;clear hrb;have c1:=ha.c1;have c2:=ha.c2;have lb:=ha.hd.lt;have f2:=ha.hd.frozen 2;have KC:Hid (∀W,Fr NoF wa W->W.cell? ⟨r,2,none⟩=some (.slice none 0 0)/\W.frozen? ⟨r,2,none⟩=false/\r<W.heap.size):=λW f=>⟨(ha.fr0 f).c2,(ha.fr0 f).hd.frozen 2,(ha.fr0 f).hd.lt⟩
 have KK:Hid (∀v7 w7,w7.ownsRow wa.heap.size 56 3 v7 (0+1+0) (([]++[.int .u32 1,.int .u64 0,.int .i64 1])++[])->Fr NoF wa w7->RG (w7.setCell ⟨r,2,none⟩ v7) r n room (insG l 0) v7/\Fr (λi=>i=r) wa (w7.setCell ⟨r,2,none⟩ v7)):=by
  intro v7 w7 ho f;refine ha.ins (k:=0) (Nat.zero_le _) (by omega) ?_ f;have e0:l=[]:=List.eq_nil_of_length_eq_zero hz;rw[hz,e0];exact ho
 clear hz hr hbb ha;go_wp2
 go_region
 go_wp2
 go_loopw [3,4] (λkk i wr=>i=.int .u32 1/\kk=.int .i64 0/\wr=wa.drew) (λkk _ _=>0)
 case atStart=>exact⟨rfl,rfl,rfl⟩
 case round=>
  obtain⟨rfl,rfl,rfl⟩:=hrel;have HOW:Hid (∀W,Fr NoF wa W->∀g,g=W.heap.size->(W.alloc (.cells #[] 56)).ownsRow wa.heap.size 56 3 (.slice (some ⟨g,0,none⟩) 0 0) 0 []):=λW f g q=>cB f.size #[] 56 3 0 _ q rfl (by unfold maxLen;omega)
  have fd:Fr NoF wa wa.drew:=(Fr.refl NoF wa).drew;have HFD:=Hd fd;clear fd
  go_wp2_with(at_builtin;go_must(refine kT (base:=wa.heap.size) EIG rfl _ _ rfl (by rfl) (by rfl) (by simp<;>omega) (HOW.out _ HFD.out wa.heap.size (by simp)) (SlC.nil _ 3) (by unfold maxLen;omega) (by omega) ?_);intro v5 w5 hown5 hf5 hob5;obtain⟨a5,c5,rfl,_,_⟩:=(SlC.ofOwn hown5 (λu hu=>by simp at hu)).shape;have HO5:=Hd hown5;have HF5:Hid (Fr NoF wa w5):=Fr.trans (F:=NoF) (a:=wa) (((Fr.refl NoF wa).drew).alloc _) hf5 (λi q=>.inr (by cases q;exact Nat.le_refl _));obtain⟨x1,x2,x3⟩:=KC.out w5 HF5.out;have hs5:=HF5.out.size;clear hown5 hf5 hob5)
  have HNW:Hid (∀W,Fr NoF (w5.alloc (.cells #[.int .u32 1,.int .u64 0,.int .i64 1] 56)) W->SlC W 3 (.slice (some ⟨w5.heap.size,0,none⟩) 1 1) 1 [.int .u32 1,.int .u64 0,.int .i64 1]):=λW f=>(SlC.ofOwn (cB (w0:=w5) (Nat.le_refl _) #[.int .u32 1,.int .u64 0,.int .i64 1] 56 3 1 _ rfl rfl (by unfold maxLen;omega)) (by simp[Value.oneCell'])).keep f
  have HO5K:Hid (∀W,Fr NoF w5 W->W.ownsRow wa.heap.size 56 3 (.slice a5 0 c5) 0 []):=λW f=>aW (by simpa using HO5.out) f (λ_ _ q=>q)
  go_region_law(first
   |(refine fY (base:=wa.heap.size) EIG rfl (.tmp 52) (.tmp 55) rfl (by rfl) (by rfl) (by simp;try omega) (HO5K.out _ (by repeat(first|exact Fr.refl NoF _|apply Fr.drew|apply Fr.alloc))) (HNW.out _ (by repeat(first|exact Fr.refl NoF _|apply Fr.drew|apply Fr.alloc))) (by unfold maxLen;omega) (by omega) ?_;intro v6 w6 hown6 hf6 hob6;obtain⟨a6,c6,rfl,_,_⟩:=(SlC.ofOwn hown6 (λu hu=>by simp at hu;rcases hu with rfl|rfl|rfl<;>rfl)).shape;have HO6:=Hd hown6;have HF6:Hid (Fr NoF wa w6):=Fr.trans (F:=NoF) (a:=wa) (by repeat(first|exact HF5.out|apply Fr.drew|apply Fr.alloc)) hf6 (λi q=>.inr (ap HO5.out i q));obtain⟨y1,y2,y3⟩:=KC.out w6 HF6.out;have hs6:=HF6.out.size;clear hown6 hf6 hob6)
   |(refine fY (base:=wa.heap.size) EIG rfl (.tmp 56) (.tmp 62) rfl (by rfl) (by rfl) hs6 HO6.out (SlC.nil _ 3) (by unfold maxLen;omega) (by omega) ?_;intro v7 w7 hown7 hf7 hob7;obtain⟨a7,c7,rfl,_,_⟩:=(SlC.ofOwn hown7 (λu hu=>by simp at hu;rcases hu with rfl|rfl|rfl<;>rfl)).shape;have HO7:=Hd hown7;have HF7:=Hd (HF6.out.trans hf7 (λi q=>.inr (ap HO6.out i q)));obtain⟨z1,z2,z3⟩:=KC.out w7 HF7.out;clear hown7 hf7 hob7))
  all_goals
   have RB7:=HRB.out.fr HF7.out (λq=>q);have t0:w7.cell? ⟨rb,0,none⟩=some (.int .i64 0):=RB7.cell (i:=0) (by omega);have t1:w7.cell? ⟨rb,1,none⟩=some (.int .u32 0):=RB7.cell (i:=1) (by omega);have t2:w7.cell? ⟨rb,2,none⟩=some (.int .u64 0):=RB7.cell (i:=2) (by omega);have g0:=RB7.frozen 0;have g1:=RB7.frozen 1;have g2:=RB7.frozen 2;have lr:=RB7.lt;have HRB7:=Hd RB7;have hne:¬rb=r:=by omega
   have hne2:¬r=rb:=by omega
   clear RB7;go_wp2;obtain⟨r1,r2⟩:=KK.out _ _ HO7.out HF7.out;have RB:=HRB7.out.other (a:=⟨r,2,none⟩) hne (.slice a7 (0+1+0) c7);have RS:=((RB.set 0 (.int .i64 0)).set 1 (.int .u32 1)).set 2 (.int .u64 0);have FS:=(((Fr.refl (λi=>i=rb) (w7.setCell ⟨r,2,none⟩ (.slice a7 (0+1+0) c7))).setCell (p:=⟨rb,0,none⟩) (.inl rfl) (.int .i64 0)).setCell (p:=⟨rb,1,none⟩) (.inl rfl) (.int .u32 1)).setCell (p:=⟨rb,2,none⟩) (.inl rfl) (.int .u64 0);have hov:=ap HO7.out;have hw0:=HRB0.out
   (try simp only[Exit.inBlock,Exit.then])
   refine bodyPost_ret (af Tryz.results50 _ _ RS rfl underlying44 rfl (by kernel_rfl)) rfl ?_;refine⟨0,HG.out,rfl,⟨_,r1.fr FS (λi q e=>?_),λi q=>?_⟩,((HFA.out.mono (λ_ q=>q.elim)).trans r2 (λi q=>.inl q)).trans FS (λi q=>.inr (by omega))⟩
   .rcases q with q|q
    .omega
    .have:=hov i q;omega
   .rcases q with q|q
    .exact .inl (.inl q)
    .right;have:=hov i q;omega
theorem vM(h:RG w r n room l lv)(hf:¬n<=pinL l)(hr:l.length<room):Calls prog 50 #[.pointer (some ⟨r,0,none⟩)] w λe w'=>∃k,gZ l k/\e=.returned (.agg #[.int .i64 0,.int .u32 (k+1:Nat),.int .u64 0])/\(∃lv',RG w' r n room (insG l k) lv'/\∀i,GFr r lv' i->GFr r lv i\/w.heap.size<=i)/\Fr (λk=>k=r) w w':=by
 obtain⟨a,c,rfl,h1,h2,_,_,h5⟩:=h.slc;rcases h5 with⟨rfl,rfl⟩|⟨g,off,rfl,_,_⟩
 .have hz:l.length=0:=by
   obtain⟨a',c',e,q1,q2⟩:=h.hl.shape;simp only[Value.slice.injEq]at e;omega
  rw[hz]at h⊢;exact wY h hf (by omega)
 .exact sq h hf hr
end
end
end Go.Proofs.YtkjhnllcphidpaaGreatDoor
