/- Part 25. -/
import Derived.Test.YtkjhnllcphidpaaGreatDoorM01
import Derived.Lib.TrailingZeros
namespace Go.Proofs.YtkjhnllcphidpaaGreatDoor
set_option linter.all false
set_option maxHeartbeats 16000000
set_option maxRecDepth 100000
section
open Go.RowKit
def ai(S:Nat->Bool)(x:Nat)(v:Bool):Nat->Bool:=λy=>if y=x then v else S y
theorem aI(S:Nat->Bool)(x:Nat)(v:Bool):ai S x v x=v:=by simp[ai]
theorem aq(S:Nat->Bool){x y:Nat}(v:Bool)(h:¬y=x):ai S x v y=S y:=by simp[ai,h]
def cA(S:Nat->Bool)(base:Nat):Nat->Nat
 |0=>0
 |n+1=>cA S base n+(if S (base+n)=true then 2^n else 0)
def wordOf(S:Nat->Bool)(x:Nat):Nat:=cA S (64*x) 64
theorem gX(S:Nat->Bool)(base:Nat):∀n,cA S base n<2^n
 |0=>by simp[cA]
 |n+1=>by
  have:=gX S base n;unfold cA;rw[Nat.pow_succ]
  split<;>omega
theorem jC(S:Nat->Bool)(base:Nat):∀n j,(cA S base n).testBit j=(decide (j<n)&&S (base+j))
 |0,j=>by simp[cA]
 |n+1,j=>by
  have h:=jC S base n;have hl:=gX S base n;unfold cA;by_cases hs:S (base+n)=true
  .rw[if_pos hs,Nat.add_comm,<-Nat.mul_one (2^n),Nat.testBit_two_pow_mul_add 1 hl j]
   by_cases e1:j<n
   .rw[if_pos e1,h j];simp[e1,Nat.lt_succ_of_lt e1]
   .rw[if_neg e1]
    by_cases e2:j=n
    .subst e2;simp[hs]
    .have:¬j<n+1:=by omega
     obtain⟨d,hd⟩:∃d,j-n=d+1:=⟨j-n-1,by omega⟩;rw[hd];simp[this,Nat.testBit_succ]
  .rw[if_neg hs,Nat.add_zero,h j]
   by_cases e2:j=n
   .subst e2;simp at hs;simp[hs]
   .by_cases e1:j<n
    .simp[e1,Nat.lt_succ_of_lt e1]
    .have:¬j<n+1:=by omega
     simp[e1,this]
theorem dc(S:Nat->Bool)(x:Nat):wordOf S x<18446744073709551616:=gX S _ 64
theorem aL(S:Nat->Bool)(x j:Nat):(wordOf S x).testBit j=(decide (j<64)&&S (64*x+j)):=jC S _ 64 j
theorem wV{S T:Nat->Bool}{x:Nat}(h:∀j,j<64->S (64*x+j)=T (64*x+j)):wordOf S x=wordOf T x:=by
 apply Nat.eq_of_testBit_eq;intro j;rw[aL,aL];by_cases e:j<64
 .rw[h j e]
 .simp[e]
theorem vE{S:Nat->Bool}{x:Nat}:wordOf S x≠0↔∃j,j<64/\S (64*x+j)=true:=by
 constructor
 .intro h
  obtain⟨j,hj⟩:=Nat.exists_testBit_of_ne_zero h;rw[aL]at hj;simp at hj;exact⟨j,hj.1,hj.2⟩
 .rintro⟨j,hj,hs⟩h0
  have:=aL S x j;rw[h0,hs]at this;simp[hj]at this
theorem vz(S:Nat->Bool)(x:Nat):wordOf S (x/64)/2^(x%64)%2=if S x=true then 1 else 0:=by
 have h:=aL S (x/64) (x%64);rw[show 64*(x/64)+x%64=x from by omega]at h;rw[Nat.testBit_eq_decide_div_mod_eq]at h;have h64:x%64<64:=Nat.mod_lt _ (by omega);simp[h64]at h;by_cases hs:S x=true
 .rw[hs]at h;simp at h;simp[hs,h]
 .rw[Bool.not_eq_true]at hs
  rw[hs]at h;simp at h;simp[hs,h]
theorem rE(S:Nat->Bool)(x:Nat):wordOf (ai S x true) (x/64)=wordOf S (x/64)|||2^(x%64):=by
 apply Nat.eq_of_testBit_eq;intro j;rw[Nat.testBit_or,aL,aL,Nat.testBit_two_pow];have h64:x%64<64:=Nat.mod_lt _ (by omega);by_cases e:x%64=j
 .subst e
  rw[show 64*(x/64)+x%64=x from by omega,aI];simp[h64]
 .rw[aq _ _ (by omega)];simp[e]
theorem pL(S:Nat->Bool)(x:Nat):wordOf (ai S x false) (x/64)=wordOf S (x/64)&&&(18446744073709551615-2^(x%64)):=by
 apply Nat.eq_of_testBit_eq;intro j;have h64:x%64<64:=Nat.mod_lt _ (by omega);have hp:2^(x%64)<2^64:=Nat.pow_lt_pow_right (by omega) h64;rw[show(18446744073709551615:Nat)-2^(x%64)=2^64-(2^(x%64)+1)from by omega,Nat.testBit_and,Nat.testBit_two_pow_sub_succ hp,aL,aL,Nat.testBit_two_pow];by_cases e:x%64=j
 .subst e
  rw[show 64*(x/64)+x%64=x from by omega,aI];simp
 .rw[aq _ _ (by omega)]
  by_cases hj:j<64
  .simp[e,hj]
  .simp[hj]
theorem dD(S:Nat->Bool){x y:Nat}(v:Bool)(h:¬y=x/64):wordOf (ai S x v) y=wordOf S y:=
 wV (λj hj=>aq _ _ (by omega))
def up(S:Nat->Bool):Nat->Bool:=λx=>decide (wordOf S x≠0)
theorem jo{S:Nat->Bool}{x:Nat}:up S x=true↔∃j,j<64/\S (64*x+j)=true:=by simp only[up,decide_eq_true_eq];exact vE
theorem up_add(S:Nat->Bool)(x:Nat):up (ai S x true)=ai (up S) (x/64) true:=by
 funext y
 by_cases e:y=x/64
 .subst e
  rw[aI,jo];exact⟨x%64,Nat.mod_lt _ (by omega),by rw[show 64*(x/64)+x%64=x from by omega,aI]⟩
 .rw[aq _ _ e];unfold up;rw[dD _ _ e]
theorem yL(S:Nat->Bool)(x:Nat)(h:wordOf (ai S x false) (x/64)=0):up (ai S x false)=ai (up S) (x/64) false:=by
 funext y
 by_cases e:y=x/64
 .subst e
  rw[aI];simp[up,h]
 .rw[aq _ _ e];unfold up;rw[dD _ _ e]
theorem Aj(S:Nat->Bool)(x:Nat)(h:¬wordOf (ai S x false) (x/64)=0):up (ai S x false)=up S:=by
 funext y
 by_cases e:y=x/64
 .subst e
  have h1:up (ai S x false) (x/64)=true:=by simp[up,h]
  rw[h1]
  symm
  rw[jo]at h1⊢;obtain⟨j,hj,hs⟩:=h1;refine⟨j,hj,?_⟩;by_cases e:64*(x/64)+j=x
  .rw[e,aI]at hs;cases hs
  .rwa [aq _ _ e]at hs
 .unfold up;rw[dD _ _ e]
def lev(S:Nat->Bool):Nat->Nat->Bool
 |0=>S
 |i+1=>up (lev S i)
def dv(x:Nat):Nat->Nat
 |0=>x
 |i+1=>dv x i/64
theorem xM(x:Nat):∀i,dv x i<=x
 |0=>Nat.le_refl _
 |i+1=>by have:=xM x i;show dv x i/64<=x;omega
theorem uh(S:Nat->Bool)(x:Nat):∀i,lev (ai S x true) i=ai (lev S i) (dv x i) true
 |0=>rfl
 |i+1=>by show up (lev (ai S x true) i)=_;rw[uh S x i,up_add];rfl
def szs(bound:Nat):Nat->Nat
 |0=>(bound+63)/64
 |i+1=>(szs bound i+63)/64
theorem tU{bound x:Nat}(h:x<bound):∀i,dv x i/64<szs bound i
 |0=>by show x/64<(bound+63)/64;omega
 |i+1=>by have:=tU h i;show dv x i/64/64<(szs bound i+63)/64;omega
theorem oo{S:Nat->Bool}{bound:Nat}(h:∀x,S x=true->x<bound):∀i x,lev S (i+1) x=true->x<szs bound i
 |0,x,hx=>by
  obtain⟨j,hj,hs⟩:=jo.1 hx;have:=h _ hs
  show x<(bound+63)/64
  omega
 |i+1,x,hx=>by
  obtain⟨j,hj,hs⟩:=jo.1 hx;have:=oo h i _ hs
  show x<(szs bound i+63)/64
  omega
theorem qK{S:Nat->Bool}{x:Nat}(h:S x=true):∀i,lev S i (dv x i)=true
 |0=>h
 |i+1=>jo.2 ⟨dv x i%64,Nat.mod_lt _ (by omega),by show lev S i (64*(dv x i/64)+dv x i%64)=true;rw[show 64*(dv x i/64)+dv x i%64=dv x i from by omega];exact qK h i⟩
theorem n0{bound:Nat}(h:bound<=65535):∀i,szs bound i<=1024
 |0=>by show(bound+63)/64<=1024;omega
 |i+1=>by have:=n0 h i;show(szs bound i+63)/64<=1024;omega
theorem vr{bound:Nat}(h:1<=bound):∀i,1<=szs bound i
 |0=>by show 1<=(bound+63)/64;omega
 |i+1=>by have:=vr h i;show 1<=(szs bound i+63)/64;omega
theorem Cp{bound:Nat}(h:bound<=65535):szs bound 2<=1:=by show(((bound+63)/64+63)/64+63)/64<=1;omega
theorem nD{n:Nat}(h0:n≠0)(h:n<18446744073709551616):Lib.ctz 64 n<64/\n.testBit (Lib.ctz 64 n)=true/\∀j,j<Lib.ctz 64 n->n.testBit j=false:=by
 obtain⟨m,hm,hk⟩:=Lib.ctzFrom_spec 64 n (by omega) h;have e:Lib.ctz 64 n=Lib.ctzFrom 64 n:=by simp[Lib.ctz,h0]
 rw[e];generalize Lib.ctzFrom 64 n=k at*;subst hm;refine⟨hk,?_,λj hj=>?_⟩
 .rw[Nat.mul_comm,Nat.testBit_mul_two_pow];simp
 .rw[Nat.mul_comm,Nat.testBit_mul_two_pow];simp;omega
def aJ(S:Nat->Bool)(x:Nat):Prop:=S x=true/\∀y,y<x->S y=false
theorem aJ.down{S:Nat->Bool}{x:Nat}(h:aJ (up S) x):wordOf S x≠0/\aJ S (x*64+Lib.ctz 64 (wordOf S x)):=by
 obtain⟨h1,h2⟩:=h;have hne:wordOf S x≠0:=by simpa[up]using h1
 obtain⟨c1,c2,c3⟩:=nD hne (dc S x);refine⟨hne,?_,λy hy=>?_⟩
 .rw[aL]at c2
  rw[Nat.mul_comm];simpa[c1]using c2
 .by_cases e:y/64=x
  .have:=c3 (y%64) (by omega)
   rw[aL]at this;rw[show 64*x+y%64=y from by omega]at this;simpa[show y%64<64 from Nat.mod_lt _ (by omega)]using this
  .have:=h2 (y/64) (by omega)
   cases hy':S y with
   |false=>rfl
   |true=>
    rw[show up S (y/64)=true from jo.2 ⟨y%64,Nat.mod_lt _ (by omega),by rw[show 64*(y/64)+y%64=y from by omega];exact hy'⟩]at this
    cases this
theorem aJ.unique{S:Nat->Bool}{x y:Nat}(h:aJ S x)(k:aJ S y):x=y:=by
 rcases Nat.lt_trichotomy x y with q|q|q
 .have:=k.2 x q;rw[h.1]at this;cases this
 .exact q
 .have:=h.2 y q;rw[k.1]at this;cases this
def cntB(S:Nat->Bool):Nat->Nat
 |0=>0
 |n+1=>cntB S n+(if S n=true then 1 else 0)
theorem o7(S:Nat->Bool):∀n,cntB S n<=n
 |0=>Nat.le_refl _
 |n+1=>by have:=o7 S n;unfold cntB;split<;>omega
theorem eT{S T:Nat->Bool}:∀n,(∀x,x<n->S x=T x)->cntB S n=cntB T n
 |0,_=>rfl
 |n+1,h=>by unfold cntB;rw[eT n (λx hx=>h x (by omega)),h n (by omega)]
theorem iu(S:Nat->Bool){x:Nat}(h:S x=false):∀n,x<n->cntB (ai S x true) n=cntB S n+1
 |0,hx=>by omega
 |n+1,hx=>by
  unfold cntB;by_cases e:x=n
  .subst e
   rw[aI,h,eT (T:=S) x (λy hy=>aq _ _ (by omega))];simp
  .rw[iu S h n (by omega),aq _ _ (λq=>e q.symm)];omega
theorem dd(S:Nat->Bool){x:Nat}(h:S x=true):∀n,x<n->cntB (ai S x false) n+1=cntB S n
 |0,hx=>by omega
 |n+1,hx=>by
  unfold cntB;by_cases e:x=n
  .subst e
   rw[aI,h,eT (T:=S) x (λy hy=>aq _ _ (by omega))];simp
  .have:=dd S h n (by omega)
   rw[aq _ _ (λq=>e q.symm)];omega
theorem gI{S:Nat->Bool}:∀{n},cntB S n=0->∀x,x<n->S x=false
 |0,_,x,hx=>by omega
 |n+1,h,x,hx=>by
  unfold cntB at h;have h1:cntB S n=0:=by omega
  by_cases e:x=n
  .subst e
   cases hs:S x with
   |false=>rfl
   |true=>rw[if_pos hs]at h;omega
  .exact gI h1 x (by omega)
theorem nB{S:Nat->Bool}{n:Nat}(h:cntB S n≠0):∃x,x<n/\S x=true:=by
 apply Classical.byContradiction;intro hno;apply h
 have:∀x,x<n->S x=false:=λx hx=>by
  cases hs:S x with
  |false=>rfl
  |true=>exact(hno ⟨x,hx,hs⟩).elim
 clear h hno
 induction n with
 |zero=>rfl
 |succ n ih=>unfold cntB;rw[ih (λx hx=>this x (by omega)),this n (by omega)];simp
theorem qI{S:Nat->Bool}:∀{n},(∃x,x<n/\S x=true)->∃x,x<n/\aJ S x
 |0,⟨x,hx,_⟩=>by omega
 |n+1,h=>by
  by_cases q:∃x,x<n/\S x=true
  .obtain⟨x,hx,hl⟩:=qI q
   exact⟨x,by omega,hl⟩
  .obtain⟨x,hx,hs⟩:=h
   have e:x=n:=by
    apply Classical.byContradiction;intro e;exact q ⟨x,by omega,hs⟩
   subst e;refine⟨x,by omega,hs,λy hy=>?_⟩
   cases hy':S y with
   |false=>rfl
   |true=>exact(q ⟨y,hy,hy'⟩).elim
end
end Go.Proofs.YtkjhnllcphidpaaGreatDoor
