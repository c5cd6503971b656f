/- Part 32. -/
import Derived.Test.YtkjhnllcphidpaaGreatDoorM31
namespace Go.Proofs.YtkjhnllcphidpaaGreatDoor
set_option linter.all false
set_option maxHeartbeats 16000000
set_option maxRecDepth 100000
section
open Go.RowKit
def cH(l:List Pg):Prop:=l.Pairwise (λp q=>p.id<q.id)
theorem cH.at{l:List Pg}(h:cH l){i j:Nat}(hj:j<l.length)(hij:i<j):(l[i]'(by omega)).id<l[j].id:=List.pairwise_iff_getElem.1 h i j (by omega) hj hij
theorem cH.inj{l:List Pg}(h:cH l){i j:Nat}(hi:i<l.length)(hj:j<l.length)(e:l[i].id=l[j].id):i=j:=by
 rcases Nat.lt_trichotomy i j with q|q|q
 .have:=h.at hj q;omega
 .exact q
 .have:=h.at hi q;omega
theorem rG{l:List Pg}(h:cH l){j:Nat}(hj:j<l.length){p q:Pg}(hq:q∈l.set j p):q=p\/(q∈l/\¬q.id=l[j].id):=by
 obtain⟨i,hi,rfl⟩:=List.mem_iff_getElem.1 hq;rw[List.length_set]at hi;by_cases e:j=i
 .subst e;left;simp
 .right
  rw[List.getElem_set_ne e];exact⟨List.getElem_mem hi,λq=>e (h.inj hj hi q.symm)⟩
theorem cH.set{l:List Pg}(h:cH l){j:Nat}(hj:j<l.length)(p:Pg)(hid:p.id=l[j].id):cH (l.set j p):=by
 refine List.pairwise_iff_getElem.2 (λa c ha hc hac=>?_);rw[List.length_set]at ha hc;have:=h.at hc hac;by_cases e1:j=a
 .subst e1
  rw[List.getElem_set_self,List.getElem_set_ne (by omega),hid];exact this
 .rw[List.getElem_set_ne e1]
  by_cases e2:j=c
  .subst e2;rw[List.getElem_set_self,hid];exact this
  .rw[List.getElem_set_ne e2];exact this
theorem nh{l:List Pg}{j:Nat}(hj:j<l.length):l=l.take j++l[j]::l.drop (j+1):=by
 rw[<-List.drop_eq_getElem_cons hj,List.take_append_drop]
theorem dq{l:List Pg}{j:Nat}(hj:j<l.length):pinL l=pinL (l.take j)+(if 0<l[j].pins then 1 else 0)+pinL (l.drop (j+1)):=by
 conv=>lhs;rw[nh hj]
 unfold pinL;rw[List.countP_append,List.countP_cons];by_cases q:0<l[j].pins<;>simp[q]<;>omega
theorem il{l:List Pg}{j:Nat}(hj:j<l.length)(p:Pg):pinL (l.set j p)+(if 0<l[j].pins then 1 else 0)=pinL l+(if 0<p.pins then 1 else 0):=by
 have h1:=dq hj;have h2:=dq (l:=l.set j p) (j:=j) (by rw[List.length_set];exact hj);rw[List.getElem_set_self,List.take_set_of_le (by omega),List.drop_set_of_lt (by omega)]at h2;omega
theorem zR{l:List Pg}{j:Nat}(hj:j<l.length):pinL (l.take j++l.drop (j+1))+(if 0<l[j].pins then 1 else 0)=pinL l:=by
 have h1:=dq hj;have:pinL (l.take j++l.drop (j+1))=pinL (l.take j)+pinL (l.drop (j+1)):=by unfold pinL;rw[List.countP_append]
 omega
theorem BQ{l:List Pg}{j:Nat}(hj:j<l.length):(l.take j++l.drop (j+1)).length=l.length-1:=by
 rw[List.length_append,List.length_take,List.length_drop];omega
theorem pj{l:List Pg}(h:cH l){j:Nat}(hj:j<l.length){q:Pg}:q∈l.take j++l.drop (j+1)↔q∈l/\¬q.id=l[j].id:=by
 have hs:=nh hj;constructor
 .intro hq
  have hm:q∈l:=by
   rcases List.mem_append.1 hq with q1|q1
   .exact List.mem_of_mem_take q1
   .exact List.mem_of_mem_drop q1
  refine⟨hm,λe=>?_⟩;have hP:cH (l.take j++l[j]::l.drop (j+1)):=by rw[<-hs];exact h
  obtain⟨p1,p2,p3⟩:=List.pairwise_append.1 hP;rcases List.mem_append.1 hq with q1|q1
  .have:=p3 q q1 l[j] (.head _);omega
  .have:=(List.pairwise_cons.1 p2).1 q q1;omega
 .rintro⟨hm,hne⟩
  rw[hs]at hm;rcases List.mem_append.1 hm with q1|q1
  .exact List.mem_append.2 (.inl q1)
  .rcases List.mem_cons.1 q1 with rfl|q1
   .exact absurd rfl hne
   .exact List.mem_append.2 (.inr q1)
theorem cH.cut{l:List Pg}(h:cH l)(j:Nat):cH (l.take j++l.drop (j+1)):=by
 refine List.Pairwise.sublist ?_ h
 conv=>rhs;rw[<-List.take_append_drop j l]
 refine List.Sublist.append (List.Sublist.refl _) ?_;rw[<-List.drop_drop];exact List.drop_sublist _ _
theorem gZ.unique{l:List Pg}{k k':Nat}(h:gZ l k)(h':gZ l k'):k=k':=by
 rcases Nat.lt_trichotomy k k' with q|q|q
 .have hk:k<l.length:=Nat.lt_of_lt_of_le q h'.le
  exact absurd (h'.all k hk q) (h.not hk)
 .exact q
 .have hk:k'<l.length:=Nat.lt_of_lt_of_le q h.le
  exact absurd (h.all k' hk q) (h'.not hk)
theorem vt{l:List Pg}(h:cH l)(h1:∀p∈l,1<=p.id):∀j (hj:j<l.length),j+1<=l[j].id
 |0,hj=>h1 _ (List.getElem_mem hj)
 |j+1,hj=>by have:=vt h h1 j (by omega);have:=h.at hj (Nat.lt_succ_self j);omega
theorem nQ{l:List Pg}(h:cH l)(h1:∀p∈l,1<=p.id){k:Nat}(hg:gZ l k):∀j (hj:j<l.length),k<=j->k+1<l[j].id:=by
 intro j hj hkj;have hk:k<l.length:=by omega
 have a:=vt h h1 k hk;have b:=hg.not hk;by_cases e:k=j
 .subst e;omega
 .have:=h.at hj (show k<j by omega);omega
theorem BL{l:List Pg}(h:cH l)(h1:∀p∈l,1<=p.id){k:Nat}(hg:gZ l k):∀q∈l,¬q.id=k+1:=by
 intro q hq e;obtain⟨j,hj,rfl⟩:=List.mem_iff_getElem.1 hq;by_cases q:j<k
 .have:=hg.all j hj q;omega
 .have:=nQ h h1 hg j hj (by omega);omega
theorem jV{l:List Pg}{k:Nat}{q:Pg}:q∈insG l k↔q=⟨k+1,0,1⟩\/q∈l:=by
 unfold insG;constructor
 .intro h
  rcases List.mem_append.1 h with h|h
  .rcases List.mem_append.1 h with h|h
   .exact .inr (List.mem_of_mem_take h)
   .exact .inl (by simpa using h)
  .exact .inr (List.mem_of_mem_drop h)
 .rintro(rfl|h)
  .simp
  .rw[<-List.take_append_drop k l]at h
   rcases List.mem_append.1 h with h|h
   .exact List.mem_append.2 (.inl (List.mem_append.2 (.inl h)))
   .exact List.mem_append.2 (.inr h)
theorem xY(l:List Pg)(k:Nat):pinL (insG l k)=pinL l+1:=by
 have e:pinL l=pinL (l.take k)+pinL (l.drop k):=by
  conv=>lhs;rw[<-List.take_append_drop k l]
  unfold pinL;rw[List.countP_append]
 unfold insG pinL at*;rw[List.countP_append,List.countP_append];simp;omega
theorem cH.ins{l:List Pg}(h:cH l)(h1:∀p∈l,1<=p.id){k:Nat}(hg:gZ l k):cH (insG l k):=by
 have hle:=hg.le
 have ht:∀p∈l.take k,p.id<k+1:=by
  intro p hp;obtain⟨j,hj,rfl⟩:=List.mem_iff_getElem.1 hp;rw[List.length_take]at hj;rw[List.getElem_take];have:=hg.all j (by omega) (by omega);omega
 have hd:∀p∈l.drop k,k+1<p.id:=by
  intro p hp;obtain⟨j,hj,rfl⟩:=List.mem_iff_getElem.1 hp;rw[List.length_drop]at hj;rw[List.getElem_drop];exact nQ h h1 hg (k+j) (by omega) (by omega)
 have hP:cH (l.take k++l.drop k):=by rw[List.take_append_drop];exact h
 obtain⟨p1,p2,p3⟩:=List.pairwise_append.1 hP;unfold insG cH;refine List.pairwise_append.2 ⟨List.pairwise_append.2 ⟨p1,List.pairwise_singleton _ _,λa ha c hc=>?_⟩,p2,λa ha c hc=>?_⟩
 .simp at hc;subst hc;exact ht a ha
 .rcases List.mem_append.1 ha with ha|ha
  .exact p3 a ha c hc
  .simp at ha;subst ha;exact hd c hc
end
section
open Go.Proofs.Tryz Go.RowKit
structure PSm(n room c:Nat)(l:List Pg):Prop where
 rise:cH l
 dom:∀p∈l,1<=p.id/\p.id<=room
 le:l.length<=room
 hp:pinL l<=n
 pb:∀p∈l,p.pins<=c
theorem PSm.mono{n room c d:Nat}{l:List Pg}(h:PSm n room c l)(hd:c<=d):PSm n room d l:=⟨h.rise,h.dom,h.le,h.hp,λp hp=>Nat.le_trans (h.pb p hp) hd⟩
theorem BX{l:List Pg}{j:Nat}(hj:j<l.length)(hp:l[j].pins=0):pinL l+1<=l.length:=by
 have h1:=dq hj;have h2:=kf (l.take j);have h3:=kf (l.drop (j+1));rw[List.length_take]at h2;rw[List.length_drop]at h3;rw[hp]at h1;simp at h1;omega
theorem xE{l:List Pg}{j:Nat}(hj:j<l.length){q:Nat}(hp:l[j].pins=q+1):1<=pinL l:=by
 have h1:=dq hj;rw[hp]at h1;simp at h1;omega
theorem PSm.set{n room c:Nat}{l:List Pg}(h:PSm n room c l){j:Nat}(hj:j<l.length)(p:Pg)(hid:p.id=l[j].id)(hpb:p.pins<=c+1)(hn:pinL (l.set j p)<=n):PSm n room (c+1) (l.set j p):=by
 refine⟨h.rise.set hj p hid,λq hq=>?_,by rw[List.length_set];exact h.le,hn,λq hq=>?_⟩
 .rcases List.mem_or_eq_of_mem_set hq with q'|rfl
  .exact h.dom q q'
  .rw[hid];exact h.dom _ (List.getElem_mem hj)
 .rcases List.mem_or_eq_of_mem_set hq with q'|rfl
  .exact Nat.le_succ_of_le (h.pb q q')
  .exact hpb
theorem PSm.cut{n room c:Nat}{l:List Pg}(h:PSm n room c l){j:Nat}(hj:j<l.length):PSm n room (c+1) (l.take j++l.drop (j+1)):=by
 have h1:=zR hj;have h2:=BQ hj;have h3:=h.le;have h4:=h.hp;exact⟨h.rise.cut j,λq hq=>h.dom q ((pj h.rise hj).1 hq).1,by omega,by omega,λq hq=>Nat.le_succ_of_le (h.pb q ((pj h.rise hj).1 hq).1)⟩
theorem PSm.ins{n room c:Nat}{l:List Pg}(h:PSm n room c l){k:Nat}(hg:gZ l k)(hk:l.length<room)(hn:pinL l<n):PSm n room (c+1) (insG l k):=by
 have hl:=hg.le;refine⟨h.rise.ins (λp hp=>(h.dom p hp).1) hg,λq hq=>?_,by rw[kH l hl];omega,by rw[xY];omega,λq hq=>?_⟩
 .rcases jV.1 hq with rfl|hm
  .exact⟨by show 1<=k+1;omega,by show k+1<=room;omega⟩
  .exact h.dom q hm
 .rcases jV.1 hq with rfl|hm
  .show 1<=c+1;omega
  .exact Nat.le_succ_of_le (h.pb q hm)
def nS(n room:Nat)(l:List Pg)(k:Int)(id x:Nat)(E I V:Int)(l':List Pg):Prop:=
 ∀W r lv,RG W r n room l lv->Calls prog 14 #[.pointer (some ⟨r,0,none⟩),.agg #[.int .i64 k,.int .u32 id,.int .u64 x]] W λe W'=>e=.returned (.agg #[.int .i64 E,.int .u32 I,.int .u64 V])/\(∃lv',RG W' r n room l' lv'/\∀i,GFr r lv' i->GFr r lv i\/W.heap.size<=i)/\Fr (GFr r lv) W W'
section
variable{n room c:Nat}{l:List Pg}
theorem aV{k:Int}{id x:Nat}{E I V:Int}(h:∀W r lv,RG W r n room l lv->Calls prog 14 #[.pointer (some ⟨r,0,none⟩),.agg #[.int .i64 k,.int .u32 id,.int .u64 x]] W λe W'=>e=.returned (.agg #[.int .i64 E,.int .u32 I,.int .u64 V])/\Fr NoF W W'):nS n room l k id x E I V l:=
 λW r lv H=>(h W r lv H).mono λe W' q=>⟨q.1,⟨lv,H.fr0 q.2,λi q=>.inl q⟩,q.2.mono (λ_ q=>q.elim)⟩
theorem gK{k:Int}{id x:Nat}{E I V:Int}{l':List Pg}(h:∀W r lv,RG W r n room l lv->Calls prog 14 #[.pointer (some ⟨r,0,none⟩),.agg #[.int .i64 k,.int .u32 id,.int .u64 x]] W λe W'=>e=.returned (.agg #[.int .i64 E,.int .u32 I,.int .u64 V])/\RG W' r n room l' lv/\Fr (GFr r lv) W W'):nS n room l k id x E I V l':=
 λW r lv H=>(h W r lv H).mono λe W' q=>⟨q.1,⟨lv,q.2.1,λi q=>.inl q⟩,q.2.2⟩
theorem nC{k:Int}{id x:Nat}{E I V:Int}{l':List Pg}(h:∀W r lv,RG W r n room l lv->Calls prog 14 #[.pointer (some ⟨r,0,none⟩),.agg #[.int .i64 k,.int .u32 id,.int .u64 x]] W λe W'=>e=.returned (.agg #[.int .i64 E,.int .u32 I,.int .u64 V])/\(∃lv',RG W' r n room l' lv'/\∀i,GFr r lv' i->GFr r lv i\/W.heap.size<=i)/\Fr (λi=>i=r) W W'):nS n room l k id x E I V l':=
 λW r lv H=>(h W r lv H).mono λe W' q=>⟨q.1,q.2.1,q.2.2.mono (λi q=>.inl q)⟩
theorem lR{E:Int}{id x:Int}(h:∀W r lv,RG W r n room l lv->Calls prog 50 #[.pointer (some ⟨r,0,none⟩)] W λe W'=>e=.returned (.agg #[.int .i64 E,.int .u32 0,.int .u64 0])/\Fr NoF W W'){w:World}{r:Nat}{lv:Value}(H:RG w r n room l lv):
  Calls prog 14 #[.pointer (some ⟨r,0,none⟩),.agg #[.int .i64 0,.int .u32 id,.int .u64 x]] w λe w'=>e=.returned (.agg #[.int .i64 E,.int .u32 0,.int .u64 0])/\Fr NoF w w':=by
 have fA:Fr NoF w ((w.alloc (.cells #[.int .i64 0,.int .u32 id,.int .u64 x] 52)).alloc (.cells #[.int .i64 0,.int .u32 0,.int .u64 0] 44)):=((Fr.refl NoF w).alloc _).alloc _;have HIN:=Hd (h _ r lv (H.fr0 fA));have HFA:=Hd fA;clear h H fA;go_enter func14,ntmps14
 go_wp2_with fail
 refine HIN.out.mono ?_;rintro e w1⟨rfl,q2⟩;have RB:=(bb w (.int .i64 0) (.int .u32 id) (.int .u64 x) (.int .i64 0) (.int .u32 0) (.int .u64 0) (t:=44) (t':=52)).fr q2 (λq=>q);have HRB:=Hd RB;have HF:Hid (Fr NoF w w1):=HFA.out.trans q2 (λi q=>.inl q);have t0:w1.cell? ⟨w.heap.size+1,0,none⟩=some (.int .i64 0):=RB.cell (i:=0) (by omega);have t1:w1.cell? ⟨w.heap.size+1,1,none⟩=some (.int .u32 0):=RB.cell (i:=1) (by omega);have t2:w1.cell? ⟨w.heap.size+1,2,none⟩=some (.int .u64 0):=RB.cell (i:=2) (by omega);have g0:=RB.frozen 0;have g1:=RB.frozen 1;have g2:=RB.frozen 2;have lr:=RB.lt;clear RB q2 HIN;go_wp2;have RS:=((HRB.out.set 0 (.int .i64 E)).set 1 (.int .u32 0)).set 2 (.int .u64 0);have FS:=(((Fr.refl (λi=>i=w.heap.size+1) w1).setCell (p:=⟨w.heap.size+1,0,none⟩) (.inl rfl) (.int .i64 E)).setCell (p:=⟨w.heap.size+1,1,none⟩) (.inl rfl) (.int .u32 0)).setCell (p:=⟨w.heap.size+1,2,none⟩) (.inl rfl) (.int .u64 0)
 (try simp only[Exit.inBlock,Exit.then])
 refine bodyPost_ret (af Tryz.results14 _ _ RS rfl underlying44 rfl (by kernel_rfl)) rfl ?_;exact⟨rfl,HF.out.trans FS (λi q=>.inr (by omega))⟩
theorem vK{id x:Int}{w:World}{r:Nat}{lv:Value}(H:RG w r n room l lv)(hf:¬n<=pinL l)(hr:l.length<room){k:Nat}(hg:gZ l k):
  Calls prog 14 #[.pointer (some ⟨r,0,none⟩),.agg #[.int .i64 0,.int .u32 id,.int .u64 x]] w λe w'=>e=.returned (.agg #[.int .i64 0,.int .u32 (k+1:Nat),.int .u64 0])/\(∃lv',RG w' r n room (insG l k) lv'/\∀i,GFr r lv' i->GFr r lv i\/w.heap.size<=i)/\Fr (λi=>i=r) w w':=by
 have fA:Fr NoF w ((w.alloc (.cells #[.int .i64 0,.int .u32 id,.int .u64 x] 52)).alloc (.cells #[.int .i64 0,.int .u32 0,.int .u64 0] 44)):=((Fr.refl NoF w).alloc _).alloc _;have HIN:=Hd (vM (H.fr0 fA) hf hr);have HFA:=Hd fA;have HLT:=Hd H.lt;have HG:=Hd hg;have lbr:=H.hd.lt;clear H fA hf hr hg;go_enter func14,ntmps14
 go_wp2_with fail
 refine HIN.out.mono ?_;rintro e w1⟨k',hg',rfl,⟨lv',q1,q3⟩,q2⟩;obtain rfl:=hg'.unique HG.out;have RB:=(bb w (.int .i64 0) (.int .u32 id) (.int .u64 x) (.int .i64 0) (.int .u32 0) (.int .u64 0) (t:=44) (t':=52)).fr q2 (λq=>by omega);have HRB:=Hd RB;have HQ1:=Hd q1;have HQ3:Hid (∀i,GFr r lv' i->GFr r lv i\/w.heap.size+2<=i):=λi q=>(q3 i q).imp _root_.id (λq=>by simpa using q)
 have HF:Hid (Fr (λi=>i=r) w w1):=(HFA.out.mono (λ_ q=>q.elim)).trans q2 (λi q=>.inl q);have t0:w1.cell? ⟨w.heap.size+1,0,none⟩=some (.int .i64 0):=RB.cell (i:=0) (by omega);have t1:w1.cell? ⟨w.heap.size+1,1,none⟩=some (.int .u32 0):=RB.cell (i:=1) (by omega);have t2:w1.cell? ⟨w.heap.size+1,2,none⟩=some (.int .u64 0):=RB.cell (i:=2) (by omega);have g0:=RB.frozen 0;have g1:=RB.frozen 1;have g2:=RB.frozen 2;have lr:=RB.lt;clear RB q2 HIN q1 q3 hg';go_wp2;have RS:=((HRB.out.set 0 (.int .i64 0)).set 1 (.int .u32 (k'+1:Nat))).set 2 (.int .u64 0);have FS:=(((Fr.refl (λi=>i=w.heap.size+1) w1).setCell (p:=⟨w.heap.size+1,0,none⟩) (.inl rfl) (.int .i64 0)).setCell (p:=⟨w.heap.size+1,1,none⟩) (.inl rfl) (.int .u32 (k'+1:Nat))).setCell (p:=⟨w.heap.size+1,2,none⟩) (.inl rfl) (.int .u64 0)
 (try simp only[Exit.inBlock,Exit.then])
 refine bodyPost_ret (af Tryz.results14 _ _ RS rfl underlying44 rfl (by kernel_rfl)) rfl ?_;refine⟨rfl,⟨lv',HQ1.out.fr FS (λi q e=>?_),λi q=>?_⟩,HF.out.trans FS (λi q=>.inr (by omega))⟩
 .rcases HQ3.out i q with q|q
  .have:=HLT.out i q;omega
  .omega
 .rcases HQ3.out i q with q|q
  .exact .inl q
  .right;omega
end
theorem mP(w:World):CallsD prog 110 #[] .returning w λe u' w'=>e=.returned (.tuple #[])/\u'=.returning/\w'=w:=by
 refine callsD_of_wpS func110 rfl λc₀ cs hu=>?_
 apply wpS_region;simp[wpOpsS,go_sem,recoverD,hu,ntmps110,Exit.thenS]
 cases c₀
 simp_all [bodyPostS,results,Tryz.results110,Exit.thenS,go_sem]
theorem ly(w:World):CallsD prog 132 #[] .returning w λe u' w'=>e=.returned (.tuple #[])/\u'=.returning/\w'=w:=by
 refine callsD_of_wpS func132 rfl λc₀ cs hu=>?_
 apply wpS_region;simp[wpOpsS,go_sem,recoverD,hu,ntmps132,Exit.thenS]
 cases c₀
 simp_all [bodyPostS,results,Tryz.results132,Exit.thenS,go_sem]
def Own(g:FuncId):Prop:=∀(args:Array Value) (w:World),(callFunc g args).run prog w=.ok (.enter g args) w
section
variable{w:World}{pb:Nat}{g:FuncId}{rv:Value}
theorem zM{c1:Value}{Q:World->Prop}(ho:Own g)(hr:w.cell? ⟨pb,1,none⟩=some rv)(hlt:pb<w.heap.size)(hc:Calls prog g #[rv,c1] w λe w'=>e=.returned (.tuple #[])/\Q w'):
  Calls prog 84 #[.pointer (some ⟨pb,0,none⟩),.func (.func g) #[] #[c1]] w λe w'=>e=.returned (.tuple #[])/\Q w':=by
 have HC:=Hd hc;have HO:=Hd ho;clear hc ho
 go_enter_defers func84,ntmps84
 go_wp2_with fail
 rw[HO.out,Oper.upon_enter];refine HC.out.mono ?_;rintro e w1⟨rfl,hq⟩;have HQ:=Hd hq;clear hq;go_wp2;refine leaves_cons (f:=110) (args:=#[]) (by simp) (by simp[go_sem]) ?_;refine(mP _).mono ?_;rintro e u' w''⟨rfl,rfl,rfl⟩;simp[Leaves,settle,results,Tryz.results84,go_sem];exact HQ.out
theorem x9{c1 c2:Value}{Q:World->Prop}(ho:Own g)(hr:w.cell? ⟨pb,1,none⟩=some rv)(hlt:pb<w.heap.size)(hc:Calls prog g #[rv,c1,c2] w λe w'=>e=.returned (.tuple #[])/\Q w'):
  Calls prog 84 #[.pointer (some ⟨pb,0,none⟩),.func (.func g) #[] #[c1,c2]] w λe w'=>e=.returned (.tuple #[])/\Q w':=by
 have HC:=Hd hc;have HO:=Hd ho;clear hc ho
 go_enter_defers func84,ntmps84
 go_wp2_with fail
 rw[HO.out,Oper.upon_enter];refine HC.out.mono ?_;rintro e w1⟨rfl,hq⟩;have HQ:=Hd hq;clear hq;go_wp2;refine leaves_cons (f:=110) (args:=#[]) (by simp) (by simp[go_sem]) ?_;refine(mP _).mono ?_;rintro e u' w''⟨rfl,rfl,rfl⟩;simp[Leaves,settle,results,Tryz.results84,go_sem];exact HQ.out
end
end
end Go.Proofs.YtkjhnllcphidpaaGreatDoor
