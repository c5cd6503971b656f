/- Part 27. -/
import Derived.Test.YtoenclhimbpfeaaGreatDoorW26
import Derived.Lib.TrailingZeros
namespace Go.Proofs.YtoenclhimbpfeaaGreatDoor
set_option linter.all false
set_option maxHeartbeats 16000000
set_option maxRecDepth 100000
section
open Go.Maps Go.Proofs.Tryz Go.RowKit
theorem qK{w:World}{base e size n:Nat}{v:Value}{xs:List Value}(h:w.ownsRow base e size v n xs):w.ownsRow 0 e size v n xs:=by
 obtain⟨h1,h2⟩:=h;refine⟨h1,h2.imp id ?_⟩;rintro⟨g,cap,cur,e1,hg,r⟩;exact⟨g,cap,cur,e1,Nat.zero_le _,r⟩
theorem rA{w:World}{base e size n:Nat}{v:Value}{xs:List Value}(h:w.ownsRow base e size v n xs):∀b,v.ownBlock=some b->base<=b:=aj h
section
variable{w w':World}{n:Nat}{v:Value}
theorem pq{pg:Nat->Bool×Nat}(h:SlF w 83 2 v n (pgF pg))(hn:n<=65535):Calls prog 33 #[v] w λe w'=>∃v',e=.returned v'/\SlF w' 83 2 v' n (pgF pg)/\(∀b,v'.ownBlock=some b->w.heap.size<=b)/\Fr NoF w w':=by
 have HH:=Hd h;obtain⟨a,cap,rfl,h1,h2⟩:=h.shape
 have hone:Hid (∀u∈(List.range (n*2)).map (pgF pg),u.oneCell'=true):=by
  intro u hu;obtain⟨j,_,rfl⟩:=List.mem_map.1 hu;unfold pgF
  split<;>rfl
 unfold maxLen at h2
 cases a with
 |none=>
  have hz:n=0/\cap=0:=by
   rcases h.2 with⟨e,_⟩|⟨g,c2,cur,e,_⟩
   .simp only[Value.slice.injEq]at e;exact⟨e.2.1,e.2.2⟩
   .simp at e
  obtain⟨rfl,rfl⟩:=hz;have hbin:∀W:World,(binOp .eql 69 (.slice none 0 0) (.slice none 0 0)).run prog W=.ok (.bool true) W:=λW=>by first|rfl|kernel_rfl
  clear h;go_enter func33,ntmps33;go_wp2;go_returns;exact⟨_,rfl,SlF.nil _ _ _ _,λb q=>(by cases q),Fr.refl _ _⟩
 |some p=>
  have hbin:∀W:World,(binOp .eql 69 (.slice (some p) n cap) (.slice none 0 0)).run prog W=.ok (.bool false) W:=λW=>by first|rfl|kernel_rfl
  clear h;go_enter func33,ntmps33
  go_wp2_with(at_builtin;go_must(refine eT (base:=w.heap.size) EIp rfl _ _ rfl (by rfl) (by rfl) (by simp) (aQ (w0:=w) (Nat.le_refl _) #[] 83 2 0 _ rfl rfl (by unfold maxLen;omega)) (SlC.ofOwn (HH.out.fr0 ((Fr.refl NoF _).alloc _)) hone.out) (by unfold maxLen;omega) (by omega) ?_);intro v' w2 hown' hf' hob';have HF':=Hd hf';have HO':=Hd hown';clear hf' hown' hob')
  go_returns;refine⟨_,rfl,?_,rA HO'.out,((Fr.refl NoF w).alloc _).trans HF'.out (λi q=>.inr (by cases q;exact Nat.le_refl _))⟩;have h3:=qK HO'.out;rw[Nat.zero_add]at h3;exact h3
theorem we{fh:Nat->Nat}(h:SlF w 34 1 v n (uN fh))(hn:n<=65535):Calls prog 34 #[v] w λe w'=>∃v',e=.returned v'/\SlF w' 34 1 v' n (uN fh)/\(∀b,v'.ownBlock=some b->w.heap.size<=b)/\Fr NoF w w':=by
 have HH:=Hd h;obtain⟨a,cap,rfl,h1,h2⟩:=h.shape
 have hone:Hid (∀u∈(List.range (n*1)).map (uN fh),u.oneCell'=true):=by
  intro u hu;obtain⟨j,_,rfl⟩:=List.mem_map.1 hu;rfl
 unfold maxLen at h2
 cases a with
 |none=>
  have hz:n=0/\cap=0:=by
   rcases h.2 with⟨e,_⟩|⟨g,c2,cur,e,_⟩
   .simp only[Value.slice.injEq]at e;exact⟨e.2.1,e.2.2⟩
   .simp at e
  obtain⟨rfl,rfl⟩:=hz;have hbin:∀W:World,(binOp .eql 70 (.slice none 0 0) (.slice none 0 0)).run prog W=.ok (.bool true) W:=λW=>by first|rfl|kernel_rfl
  clear h;go_enter func34,ntmps34;go_wp2;go_returns;exact⟨_,rfl,SlF.nil _ _ _ _,λb q=>(by cases q),Fr.refl _ _⟩
 |some p=>
  have hbin:∀W:World,(binOp .eql 70 (.slice (some p) n cap) (.slice none 0 0)).run prog W=.ok (.bool false) W:=λW=>by first|rfl|kernel_rfl
  clear h;go_enter func34,ntmps34
  go_wp2_with(at_builtin;go_must(refine eT (base:=w.heap.size) EIh rfl _ _ rfl (by rfl) (by rfl) (by simp) (aQ (w0:=w) (Nat.le_refl _) #[] 34 1 0 _ rfl rfl (by unfold maxLen;omega)) (SlC.ofOwn (HH.out.fr0 ((Fr.refl NoF _).alloc _)) hone.out) (by unfold maxLen;omega) (by omega) ?_);intro v' w2 hown' hf' hob';have HF':=Hd hf';have HO':=Hd hown';clear hf' hown' hob')
  go_returns;refine⟨_,rfl,?_,rA HO'.out,((Fr.refl NoF w).alloc _).trans HF'.out (λi q=>.inr (by cases q;exact Nat.le_refl _))⟩;have h3:=qK HO'.out;rw[Nat.zero_add]at h3;exact h3
end
def DS.copy(s:DS):DS:=⟨s.room,s.np,s.pg,λ_=>0,false,0,0,0⟩
section
variable{w w':World}{db c mb nf:Nat}{s:DS}{pv fv:Value}{fh:Nat->Nat}{F:Nat->Prop}
theorem DC.copied(h:DC w db s c pv fv mb fh nf){wz:World}{pv' fv':Value}{mb':Nat}(hp:SlF wz 83 2 pv' s.np (pgF s.pg))(hf:SlF wz 34 1 fv' nf (uN fh))(hm:MpK prog 86 3 .i64 okA klA wz mb' 0 (λ_=>none))(n1:∀b,pv'.ownBlock=some b->¬b=mb'/\¬fv'.ownBlock=some b/\w.heap.size<=b)(n2:∀b,fv'.ownBlock=some b->¬b=mb'/\w.heap.size<=b)(n3:w.heap.size<=mb')(f:Fr NoF w wz){db':Nat}(e:db'=wz.heap.size):
  DC (wz.alloc (.cells #[.int .i64 s.room,pv',fv',.map (some mb'),.bool false,.int .i64 0,.int .i64 0,.int .i64 0] 72)) db' s.copy 0 pv' fv' mb' fh nf/\(∀i,FD db' pv' fv' mb' i->w.heap.size<=i)/\Fr NoF w (wz.alloc (.cells #[.int .i64 s.room,pv',fv',.map (some mb'),.bool false,.int .i64 0,.int .i64 0,.int .i64 0] 72)):=by
 subst e;have fa:Fr NoF wz (wz.alloc (.cells #[.int .i64 s.room,pv',fv',.map (some mb'),.bool false,.int .i64 0,.int .i64 0,.int .i64 0] 72)):=(Fr.refl NoF wz).alloc _;have lm:=hm.lt;have sz:=f.size;have hm':MpK prog 86 3 .i64 okA klA wz mb' 0 (flM (λ_=>0)):=by rw[rm];exact hm
 refine⟨⟨⟨_,_,heap_alloc_new _ _ _ rfl,rfl,λi hi=>?_⟩,hp.fr0 fa,hf.fr0 fa,hm'.fr fa (λq=>q),λb q=>⟨by have:=hp.lt b q;omega,(n1 b q).1,(n1 b q).2.1⟩,λb q=>⟨by have:=hf.lt b q;omega,(n2 b q).1⟩,by omega,h.r1,h.r2,h.hp,h.inj,h.nn,h.fm,by omega,⟨by show bg 0;unfold bg;omega,by show(0:Nat)<_;omega,by show(0:Nat)<_;omega⟩,λa=>by show bg 0;unfold bg;omega⟩,λi q=>?_,f.alloc _⟩
 .match i,hi with
  |0,_=>rfl
  |1,_=>rfl
  |2,_=>rfl
  |3,_=>rfl
  |4,_=>rfl
  |5,_=>rfl
  |6,_=>rfl
  |7,_=>rfl
 .rcases q with q|q|q|q
  .rw[q];exact sz
  .rw[q];exact n3
  .exact(n1 i q).2.2
  .exact(n2 i q).2
end
section
variable{w w':World}{db c mb nf:Nat}{s:DS}{pv fv:Value}{fh:Nat->Nat}{F:Nat->Prop}
theorem Dn(h:DC w db s c pv fv mb fh nf):Calls prog 18 #[.pointer (some ⟨db,0,none⟩)] w λe w'=>∃db' pv' fv' mb',e=.returned (.pointer (some ⟨db',0,none⟩))/\DC w' db' s.copy 0 pv' fv' mb' fh nf/\(∀i,FD db' pv' fv' mb' i->w.heap.size<=i)/\Fr NoF w w':=by
 have c0:w.cell? ⟨db,0,none⟩=some (.int .i64 s.room):=h.ce 0 (by omega);have c1:w.cell? ⟨db,1,none⟩=some pv:=h.ce 1 (by omega);have c2:w.cell? ⟨db,2,none⟩=some fv:=h.ce 2 (by omega);have lb:=h.hd.lt;have hsm:=h.small;have hr1:=h.r1;have hr2:=h.r2;have HD:=Hd h;have HC:Hid (∀W,Fr NoF w W->W.cell? ⟨db,0,none⟩=some (.int .i64 s.room)/\W.cell? ⟨db,1,none⟩=some pv/\W.cell? ⟨db,2,none⟩=some fv):=λW f=>⟨(h.fr0 f).ce 0 (by omega),(h.fr0 f).ce 1 (by omega),(h.fr0 f).ce 2 (by omega)⟩
 have C1:Hid (∀W,Fr NoF w W->Calls prog 33 #[pv] W λe w'=>∃v',e=.returned v'/\SlF w' 83 2 v' s.np (pgF s.pg)/\(∀b,v'.ownBlock=some b->W.heap.size<=b)/\Fr NoF W w'/\Fr NoF w w'):=λW f=>(pq (h.po.fr0 f) (by omega)).mono λe w' ⟨v',q1,q2,q3,q4⟩=>⟨v',q1,q2,q3,q4,f.trans q4 (λ_ q=>q.elim)⟩
 have C2:Hid (∀W,Fr NoF w W->Calls prog 34 #[fv] W λe w'=>∃v',e=.returned v'/\SlF w' 34 1 v' nf (uN fh)/\(∀b,v'.ownBlock=some b->W.heap.size<=b)/\Fr NoF W w'/\Fr NoF w w'):=λW f=>(we (h.fo.fr0 f) (by omega)).mono λe w' ⟨v',q1,q2,q3,q4⟩=>⟨v',q1,q2,q3,q4,f.trans q4 (λ_ q=>q.elim)⟩
 have hmm:=@run_makeMap prog;obtain⟨va,vc,rfl,_,_⟩:=h.po.shape;obtain⟨fa,fc,rfl,_,_⟩:=h.fo.shape;clear h;go_enter func18,ntmps18
 go_wp2_with fail
 go_region_held3(λw'=>w'.cell? ⟨db,0,none⟩=some (.int .i64 s.room)/\w'.cell? ⟨db,1,none⟩=some (.slice va s.np vc)/\w'.cell? ⟨db,2,none⟩=some (.slice fa nf fc))
  (exact HC.out _ (by repeat(first|exact F2.out|exact F1.out|exact Fr.refl NoF _|apply Fr.drew|apply Fr.alloc)))
  (first
  |(go_at_call 33;(with_reducible refine(C1.out _ (by repeat(first|exact Fr.refl NoF _|apply Fr.drew|apply Fr.alloc))).mono ?_);rintro e w1⟨v1,rfl,h1,b1,g1,f1⟩;obtain⟨va1,vc1,rfl,_,_⟩:=h1.shape;have H1:=Hd h1;have B1:=Hd b1;have G1:=Hd g1;have F1:=Hd f1;clear h1 b1 g1 f1)
  |(go_at_call 34;(with_reducible refine(C2.out _ (by repeat(first|exact F1.out|apply Fr.drew|apply Fr.alloc))).mono ?_);rintro e w2⟨v2,rfl,h2,b2,g2,f2⟩;obtain⟨va2,vc2,rfl,_,_⟩:=h2.shape;have H2:=Hd h2;have B2:=Hd b2;have G2:=Hd g2;have F2:=Hd f2;clear h2 b2 g2 f2))
 all_goals
  go_wp2;go_returns;have s1:=G1.out.size;have s2:=G2.out.size
  (try simp at s1)
  (try simp at s2)
  have l1:=H1.out.lt;have l2:=H2.out.lt
  first
   |exact⟨_,_,_,_,rfl,HD.out.copied (wz:=w2.alloc (.map #[] 0)) (mb':=w2.heap.size) (H1.out.fr0 (G2.out.alloc _)) (H2.out.fr0 ((Fr.refl NoF w2).alloc _)) (MpK.made _ _ _ _ _ _ w2) (λb q=>by have h1:=l1 b q;have h2:=B1.out b q;(try simp at h2);exact⟨by omega,λe=>by have h3:=B2.out b e;(try simp at h3);omega,by omega⟩) (λb q=>by have h1:=l2 b q;have h2:=B2.out b q;(try simp at h2);exact⟨by omega,by omega⟩) (by omega) (F2.out.alloc _) (by simp)⟩
   |exact⟨_,_,_,_,rfl,HD.out.copied (wz:=w2) (mb':=w1.heap.size) (H1.out.fr0 (((Fr.refl NoF w1).alloc _).trans G2.out (λ_ q=>q.elim))) H2.out ((MpK.made _ _ _ _ _ _ w1).fr G2.out (λq=>q)) (λb q=>by have h1:=l1 b q;have h2:=B1.out b q;(try simp at h2);exact⟨by omega,λe=>by have h3:=B2.out b e;(try simp at h3);omega,by omega⟩) (λb q=>by have h1:=l2 b q;have h2:=B2.out b q;(try simp at h2);exact⟨by omega,by omega⟩) (by omega) F2.out rfl⟩
   |exact⟨_,_,_,_,rfl,HD.out.copied (wz:=w2) (mb':=w.heap.size) (H1.out.fr0 G2.out) H2.out ((MpK.made _ _ _ _ _ _ w).fr ((((Fr.refl NoF _).drew).trans G1.out (λ_ q=>q.elim)).trans G2.out (λ_ q=>q.elim)) (λq=>q)) (λb q=>by have h1:=l1 b q;have h2:=B1.out b q;(try simp at h2);exact⟨by omega,λe=>by have h3:=B2.out b e;(try simp at h3);omega,by omega⟩) (λb q=>by have h1:=l2 b q;have h2:=B2.out b q;(try simp at h2);exact⟨by omega,by omega⟩) (by omega) F2.out rfl⟩
end
end
section
open Go.RowKit
def ap(S:Nat->Bool)(x:Nat)(v:Bool):Nat->Bool:=λy=>if y=x then v else S y
theorem aM(S:Nat->Bool)(x:Nat)(v:Bool):ap S x v x=v:=by simp[ap]
theorem aA(S:Nat->Bool){x y:Nat}(v:Bool)(h:¬y=x):ap S x v y=S y:=by simp[ap,h]
def cr(S:Nat->Bool)(base:Nat):Nat->Nat
 |0=>0
 |n+1=>cr S base n+(if S (base+n)=true then 2^n else 0)
def wordOf(S:Nat->Bool)(x:Nat):Nat:=cr S (64*x) 64
theorem hU(S:Nat->Bool)(base:Nat):∀n,cr S base n<2^n
 |0=>by simp[cr]
 |n+1=>by
  have:=hU S base n;unfold cr;rw[Nat.pow_succ]
  split<;>omega
theorem jT(S:Nat->Bool)(base:Nat):∀n j,(cr S base n).testBit j=(decide (j<n)&&S (base+j))
 |0,j=>by simp[cr]
 |n+1,j=>by
  have h:=jT S base n;have hl:=hU S base n;unfold cr;by_cases hs:S (base+n)=true
  .rw[if_pos hs,Nat.add_comm,<-Nat.mul_one (2^n),Nat.testBit_two_pow_mul_add 1 hl j]
   by_cases e1:j<n
   .rw[if_pos e1,h j];simp[e1,Nat.lt_succ_of_lt e1]
   .rw[if_neg e1]
    by_cases e2:j=n
    .subst e2;simp[hs]
    .have:¬j<n+1:=by omega
     obtain⟨d,hd⟩:∃d,j-n=d+1:=⟨j-n-1,by omega⟩;rw[hd];simp[this,Nat.testBit_succ]
  .rw[if_neg hs,Nat.add_zero,h j]
   by_cases e2:j=n
   .subst e2;simp at hs;simp[hs]
   .by_cases e1:j<n
    .simp[e1,Nat.lt_succ_of_lt e1]
    .have:¬j<n+1:=by omega
     simp[e1,this]
theorem cY(S:Nat->Bool)(x:Nat):wordOf S x<18446744073709551616:=hU S _ 64
theorem aO(S:Nat->Bool)(x j:Nat):(wordOf S x).testBit j=(decide (j<64)&&S (64*x+j)):=jT S _ 64 j
theorem xN{S T:Nat->Bool}{x:Nat}(h:∀j,j<64->S (64*x+j)=T (64*x+j)):wordOf S x=wordOf T x:=by
 apply Nat.eq_of_testBit_eq;intro j;rw[aO,aO];by_cases e:j<64
 .rw[h j e]
 .simp[e]
theorem xq{S:Nat->Bool}{x:Nat}:wordOf S x≠0↔∃j,j<64/\S (64*x+j)=true:=by
 constructor
 .intro h
  obtain⟨j,hj⟩:=Nat.exists_testBit_of_ne_zero h;rw[aO]at hj;simp at hj;exact⟨j,hj.1,hj.2⟩
 .rintro⟨j,hj,hs⟩h0
  have:=aO S x j;rw[h0,hs]at this;simp[hj]at this
theorem xF(S:Nat->Bool)(x:Nat):wordOf S (x/64)/2^(x%64)%2=if S x=true then 1 else 0:=by
 have h:=aO S (x/64) (x%64);rw[show 64*(x/64)+x%64=x from by omega]at h;rw[Nat.testBit_eq_decide_div_mod_eq]at h;have h64:x%64<64:=Nat.mod_lt _ (by omega);simp[h64]at h;by_cases hs:S x=true
 .rw[hs]at h;simp at h;simp[hs,h]
 .rw[Bool.not_eq_true]at hs
  rw[hs]at h;simp at h;simp[hs,h]
theorem sj(S:Nat->Bool)(x:Nat):wordOf (ap S x true) (x/64)=wordOf S (x/64)|||2^(x%64):=by
 apply Nat.eq_of_testBit_eq;intro j;rw[Nat.testBit_or,aO,aO,Nat.testBit_two_pow];have h64:x%64<64:=Nat.mod_lt _ (by omega);by_cases e:x%64=j
 .subst e
  rw[show 64*(x/64)+x%64=x from by omega,aM];simp[h64]
 .rw[aA _ _ (by omega)];simp[e]
theorem pu(S:Nat->Bool)(x:Nat):wordOf (ap S x false) (x/64)=wordOf S (x/64)&&&(18446744073709551615-2^(x%64)):=by
 apply Nat.eq_of_testBit_eq;intro j;have h64:x%64<64:=Nat.mod_lt _ (by omega);have hp:2^(x%64)<2^64:=Nat.pow_lt_pow_right (by omega) h64;rw[show(18446744073709551615:Nat)-2^(x%64)=2^64-(2^(x%64)+1)from by omega,Nat.testBit_and,Nat.testBit_two_pow_sub_succ hp,aO,aO,Nat.testBit_two_pow];by_cases e:x%64=j
 .subst e
  rw[show 64*(x/64)+x%64=x from by omega,aM];simp
 .rw[aA _ _ (by omega)]
  by_cases hj:j<64
  .simp[e,hj]
  .simp[hj]
theorem dq(S:Nat->Bool){x y:Nat}(v:Bool)(h:¬y=x/64):wordOf (ap S x v) y=wordOf S y:=
 xN (λj hj=>aA _ _ (by omega))
def up(S:Nat->Bool):Nat->Bool:=λx=>decide (wordOf S x≠0)
theorem jf{S:Nat->Bool}{x:Nat}:up S x=true↔∃j,j<64/\S (64*x+j)=true:=by simp only[up,decide_eq_true_eq];exact xq
theorem up_add(S:Nat->Bool)(x:Nat):up (ap S x true)=ap (up S) (x/64) true:=by
 funext y
 by_cases e:y=x/64
 .subst e
  rw[aM,jf];exact⟨x%64,Nat.mod_lt _ (by omega),by rw[show 64*(x/64)+x%64=x from by omega,aM]⟩
 .rw[aA _ _ e];unfold up;rw[dq _ _ e]
theorem Ao(S:Nat->Bool)(x:Nat)(h:wordOf (ap S x false) (x/64)=0):up (ap S x false)=ap (up S) (x/64) false:=by
 funext y
 by_cases e:y=x/64
 .subst e
  rw[aM];simp[up,h]
 .rw[aA _ _ e];unfold up;rw[dq _ _ e]
theorem BH(S:Nat->Bool)(x:Nat)(h:¬wordOf (ap S x false) (x/64)=0):up (ap S x false)=up S:=by
 funext y
 by_cases e:y=x/64
 .subst e
  have h1:up (ap S x false) (x/64)=true:=by simp[up,h]
  rw[h1]
  symm
  rw[jf]at h1⊢;obtain⟨j,hj,hs⟩:=h1;refine⟨j,hj,?_⟩;by_cases e:64*(x/64)+j=x
  .rw[e,aM]at hs;cases hs
  .rwa [aA _ _ e]at hs
 .unfold up;rw[dq _ _ e]
def lev(S:Nat->Bool):Nat->Nat->Bool
 |0=>S
 |i+1=>up (lev S i)
def dv(x:Nat):Nat->Nat
 |0=>x
 |i+1=>dv x i/64
theorem yN(x:Nat):∀i,dv x i<=x
 |0=>Nat.le_refl _
 |i+1=>by have:=yN x i;show dv x i/64<=x;omega
theorem uI(S:Nat->Bool)(x:Nat):∀i,lev (ap S x true) i=ap (lev S i) (dv x i) true
 |0=>rfl
 |i+1=>by show up (lev (ap S x true) i)=_;rw[uI S x i,up_add];rfl
def szs(bound:Nat):Nat->Nat
 |0=>(bound+63)/64
 |i+1=>(szs bound i+63)/64
theorem uO{bound x:Nat}(h:x<bound):∀i,dv x i/64<szs bound i
 |0=>by show x/64<(bound+63)/64;omega
 |i+1=>by have:=uO h i;show dv x i/64/64<(szs bound i+63)/64;omega
theorem oV{S:Nat->Bool}{bound:Nat}(h:∀x,S x=true->x<bound):∀i x,lev S (i+1) x=true->x<szs bound i
 |0,x,hx=>by
  obtain⟨j,hj,hs⟩:=jf.1 hx;have:=h _ hs
  show x<(bound+63)/64
  omega
 |i+1,x,hx=>by
  obtain⟨j,hj,hs⟩:=jf.1 hx;have:=oV h i _ hs
  show x<(szs bound i+63)/64
  omega
theorem qO{S:Nat->Bool}{x:Nat}(h:S x=true):∀i,lev S i (dv x i)=true
 |0=>h
 |i+1=>jf.2 ⟨dv x i%64,Nat.mod_lt _ (by omega),by show lev S i (64*(dv x i/64)+dv x i%64)=true;rw[show 64*(dv x i/64)+dv x i%64=dv x i from by omega];exact qO h i⟩
theorem oj{bound:Nat}(h:bound<=65535):∀i,szs bound i<=1024
 |0=>by show(bound+63)/64<=1024;omega
 |i+1=>by have:=oj h i;show(szs bound i+63)/64<=1024;omega
theorem vL{bound:Nat}(h:1<=bound):∀i,1<=szs bound i
 |0=>by show 1<=(bound+63)/64;omega
 |i+1=>by have:=vL h i;show 1<=(szs bound i+63)/64;omega
theorem Cu{bound:Nat}(h:bound<=65535):szs bound 2<=1:=by show(((bound+63)/64+63)/64+63)/64<=1;omega
theorem ni{n:Nat}(h0:n≠0)(h:n<18446744073709551616):Lib.ctz 64 n<64/\n.testBit (Lib.ctz 64 n)=true/\∀j,j<Lib.ctz 64 n->n.testBit j=false:=by
 obtain⟨m,hm,hk⟩:=Lib.ctzFrom_spec 64 n (by omega) h;have e:Lib.ctz 64 n=Lib.ctzFrom 64 n:=by simp[Lib.ctz,h0]
 rw[e];generalize Lib.ctzFrom 64 n=k at*;subst hm;refine⟨hk,?_,λj hj=>?_⟩
 .rw[Nat.mul_comm,Nat.testBit_mul_two_pow];simp
 .rw[Nat.mul_comm,Nat.testBit_mul_two_pow];simp;omega
def aT(S:Nat->Bool)(x:Nat):Prop:=S x=true/\∀y,y<x->S y=false
theorem aT.down{S:Nat->Bool}{x:Nat}(h:aT (up S) x):wordOf S x≠0/\aT S (x*64+Lib.ctz 64 (wordOf S x)):=by
 obtain⟨h1,h2⟩:=h;have hne:wordOf S x≠0:=by simpa[up]using h1
 obtain⟨c1,c2,c3⟩:=ni hne (cY S x);refine⟨hne,?_,λy hy=>?_⟩
 .rw[aO]at c2
  rw[Nat.mul_comm];simpa[c1]using c2
 .by_cases e:y/64=x
  .have:=c3 (y%64) (by omega)
   rw[aO]at this;rw[show 64*x+y%64=y from by omega]at this;simpa[show y%64<64 from Nat.mod_lt _ (by omega)]using this
  .have:=h2 (y/64) (by omega)
   cases hy':S y with
   |false=>rfl
   |true=>
    rw[show up S (y/64)=true from jf.2 ⟨y%64,Nat.mod_lt _ (by omega),by rw[show 64*(y/64)+y%64=y from by omega];exact hy'⟩]at this
    cases this
theorem aT.unique{S:Nat->Bool}{x y:Nat}(h:aT S x)(k:aT S y):x=y:=by
 rcases Nat.lt_trichotomy x y with q|q|q
 .have:=k.2 x q;rw[h.1]at this;cases this
 .exact q
 .have:=h.2 y q;rw[k.1]at this;cases this
def cntB(S:Nat->Bool):Nat->Nat
 |0=>0
 |n+1=>cntB S n+(if S n=true then 1 else 0)
theorem oN(S:Nat->Bool):∀n,cntB S n<=n
 |0=>Nat.le_refl _
 |n+1=>by have:=oN S n;unfold cntB;split<;>omega
theorem eP{S T:Nat->Bool}:∀n,(∀x,x<n->S x=T x)->cntB S n=cntB T n
 |0,_=>rfl
 |n+1,h=>by unfold cntB;rw[eP n (λx hx=>h x (by omega)),h n (by omega)]
theorem iP(S:Nat->Bool){x:Nat}(h:S x=false):∀n,x<n->cntB (ap S x true) n=cntB S n+1
 |0,hx=>by omega
 |n+1,hx=>by
  unfold cntB;by_cases e:x=n
  .subst e
   rw[aM,h,eP (T:=S) x (λy hy=>aA _ _ (by omega))];simp
  .rw[iP S h n (by omega),aA _ _ (λq=>e q.symm)];omega
theorem gu(S:Nat->Bool){x:Nat}(h:S x=true):∀n,x<n->cntB (ap S x false) n+1=cntB S n
 |0,hx=>by omega
 |n+1,hx=>by
  unfold cntB;by_cases e:x=n
  .subst e
   rw[aM,h,eP (T:=S) x (λy hy=>aA _ _ (by omega))];simp
  .have:=gu S h n (by omega)
   rw[aA _ _ (λq=>e q.symm)];omega
theorem gy{S:Nat->Bool}:∀{n},cntB S n=0->∀x,x<n->S x=false
 |0,_,x,hx=>by omega
 |n+1,h,x,hx=>by
  unfold cntB at h;have h1:cntB S n=0:=by omega
  by_cases e:x=n
  .subst e
   cases hs:S x with
   |false=>rfl
   |true=>rw[if_pos hs]at h;omega
  .exact gy h1 x (by omega)
theorem nN{S:Nat->Bool}{n:Nat}(h:cntB S n≠0):∃x,x<n/\S x=true:=by
 apply Classical.byContradiction;intro hno;apply h
 have:∀x,x<n->S x=false:=λx hx=>by
  cases hs:S x with
  |false=>rfl
  |true=>exact(hno ⟨x,hx,hs⟩).elim
 clear h hno
 induction n with
 |zero=>rfl
 |succ n ih=>unfold cntB;rw[ih (λx hx=>this x (by omega)),this n (by omega)];simp
theorem qh{S:Nat->Bool}:∀{n},(∃x,x<n/\S x=true)->∃x,x<n/\aT S x
 |0,⟨x,hx,_⟩=>by omega
 |n+1,h=>by
  by_cases q:∃x,x<n/\S x=true
  .obtain⟨x,hx,hl⟩:=qh q
   exact⟨x,by omega,hl⟩
  .obtain⟨x,hx,hs⟩:=h
   have e:x=n:=by
    apply Classical.byContradiction;intro e;exact q ⟨x,by omega,hs⟩
   subst e;refine⟨x,by omega,hs,λy hy=>?_⟩
   cases hy':S y with
   |false=>rfl
   |true=>exact(q ⟨y,hy,hy'⟩).elim
end
end Go.Proofs.YtoenclhimbpfeaaGreatDoor
