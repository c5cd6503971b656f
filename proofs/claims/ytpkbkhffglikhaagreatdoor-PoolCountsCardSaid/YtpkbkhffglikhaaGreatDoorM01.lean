/- Part 1. -/
import Derived.Lib.Hide
import Derived.Deep.QuietTactic
import Derived.Lib.TrailingZeros
import Derived.Deep.DeepMust
import Derived.Maps.AppendAt
import Derived.Test.YtpkbkhffglikhaaGreatDoorChecked
import Derived.Handy
namespace Go.Proofs.YtpkbkhffglikhaaGreatDoor
set_option linter.all false
set_option maxHeartbeats 16000000
set_option maxRecDepth 100000
section
open Go.RowKit
abbrev Hd:=@Lib.hid
def upd{α:Type}(c:Nat->α)(i:Nat)(v:α):Nat->α:=λj=>if j=i then v else c j
theorem upd_same{α:Type}(c:Nat->α)(i:Nat)(v:α):upd c i v i=v:=by simp[upd]
theorem upd_other{α:Type}(c:Nat->α){i j:Nat}(v:α)(h:¬j=i):upd c i v j=c j:=by simp[upd,h]
def Blk(w:World)(b N:Nat)(c:Nat->Value):Prop:=
 ∃cs t,w.heap[b]?=some (.cells cs t (0,0))/\cs.size=N/\∀i,i<N->cs[i]?=some (c i)
theorem Blk.lt{w:World}{b N:Nat}{c:Nat->Value}(h:Blk w b N c):b<w.heap.size:=by
 obtain⟨cs,t,hh,_⟩:=h;rcases Nat.lt_or_ge b w.heap.size with h'|h'
 .exact h'
 .simp[Array.getElem?_eq_none h']at hh
theorem Blk.cell{w:World}{b N:Nat}{c:Nat->Value}(h:Blk w b N c){i:Nat}(hi:i<N):w.cell? ⟨b,i,none⟩=some (c i):=by
 obtain⟨cs,t,hh,_,hc⟩:=h;simp[World.cell?,hh,hc i hi]
theorem Blk.frozen{w:World}{b N:Nat}{c:Nat->Value}(h:Blk w b N c)(i:Nat):w.frozen? ⟨b,i,none⟩=false:=by
 obtain⟨cs,t,hh,_⟩:=h;simp[World.frozen?,hh]
theorem Blk.ofHeap{w w':World}{b N:Nat}{c:Nat->Value}(h:Blk w b N c)(e:w'.heap[b]?=w.heap[b]?):Blk w' b N c:=by
 obtain⟨cs,t,hh,r⟩:=h;exact⟨cs,t,by rw[e];exact hh,r⟩
theorem Blk.congr{w:World}{b N:Nat}{c c':Nat->Value}(h:Blk w b N c)(e:∀i,i<N->c i=c' i):Blk w b N c':=by
 obtain⟨cs,t,hh,hs,hc⟩:=h;exact⟨cs,t,hh,hs,λi hi=>by rw[<-e i hi];exact hc i hi⟩
theorem Blk.set{w:World}{b N:Nat}{c:Nat->Value}(h:Blk w b N c)(i:Nat)(v:Value):Blk (w.setCell ⟨b,i,none⟩ v) b N (upd c i v):=by
 obtain⟨cs,t,hh,hs,hc⟩:=h;refine⟨cs.setIfInBounds i v,t,?_,by simp[hs],λj hj=>?_⟩
 .simp[World.setCell,Array.getElem?_modify,hh]
 .rw[Array.getElem?_setIfInBounds]
  by_cases e:i=j
  .subst e;simp[upd,hs,hj]
  .rw[if_neg e,hc j hj,upd_other _ _ (λq=>e q.symm)]
theorem Blk.other{w:World}{b N:Nat}{c:Nat->Value}(h:Blk w b N c){a:Addr}(hne:¬b=a.block)(v:Value):Blk (w.setCell a v) b N c:=
 h.ofHeap (Below.heap_setCell w a v b hne)
theorem Blk.alloc{w:World}{b N:Nat}{c:Nat->Value}(h:Blk w b N c)(o:Obj):Blk (w.alloc o) b N c:=
 h.ofHeap (Below.heap_alloc w o b h.lt)
theorem Blk.drew{w:World}{b N:Nat}{c:Nat->Value}(h:Blk w b N c):Blk w.drew b N c:=h.ofHeap rfl
theorem Blk.drewN{w:World}{b N:Nat}{c:Nat->Value}(h:Blk w b N c)(n:Nat):Blk (w.drewN n) b N c:=h.ofHeap rfl
theorem heap_alloc_new(w:World)(o:Obj)(n:Nat)(hn:n=w.heap.size):(w.alloc o).heap[n]?=some o:=by
 subst hn;show(w.heap.push o)[w.heap.size]?=_;simp
theorem Blk.new(w:World)(cs:Array Value)(t:TypeId)(N:Nat)(c:Nat->Value)(n:Nat)(hn:n=w.heap.size)(hs:cs.size=N)(hc:∀i,i<N->cs[i]?=some (c i)):
  Blk (w.alloc (.cells cs t)) n N c:=⟨cs,t,heap_alloc_new w _ n hn,hs,hc⟩
structure Fr(F:Nat->Prop)(w w':World):Prop where
 os:w'.os=w.os
 tape:w'.tape=w.tape
 output:w'.output=w.output
 size:w.heap.size<=w'.heap.size
 block:∀k,k<w.heap.size->¬F k->w'.heap[k]?=w.heap[k]?
theorem Fr.refl(F:Nat->Prop)(w:World):Fr F w w:=⟨rfl,rfl,rfl,Nat.le_refl _,λ_ _ _=>rfl⟩
theorem Fr.trans{F:Nat->Prop}{a b c:World}(h:Fr F a b){G:Nat->Prop}(k:Fr G b c)(hG:∀i,G i->F i\/a.heap.size<=i):Fr F a c:=
 ⟨k.os.trans h.os,k.tape.trans h.tape,k.output.trans h.output,Nat.le_trans h.size k.size,λi hi hF=>
  (k.block i (Nat.lt_of_lt_of_le hi h.size) (λg=>(hG i g).elim hF (λe=>by omega))).trans (h.block i hi hF)⟩
theorem Fr.mono{F G:Nat->Prop}{w w':World}(h:Fr F w w')(hF:∀i,F i->G i):Fr G w w':=
 ⟨h.os,h.tape,h.output,h.size,λk hk hG=>h.block k hk (λf=>hG (hF k f))⟩
theorem Fr.alloc{F:Nat->Prop}{a w:World}(h:Fr F a w)(o:Obj):Fr F a (w.alloc o):=
 ⟨h.os,h.tape,h.output,by have:=h.size;simp;omega,λk hk hF=>by rw[Below.heap_alloc w o k (Nat.lt_of_lt_of_le hk h.size)];exact h.block k hk hF⟩
theorem Fr.setCell{F:Nat->Prop}{a w:World}(h:Fr F a w){p:Addr}(hp:F p.block\/a.heap.size<=p.block)(v:Value):Fr F a (w.setCell p v):=
 ⟨h.os,h.tape,h.output,by have:=h.size;simpa using this,λk hk hF=>by
  have hne:k≠p.block:=λe=>hp.elim (λf=>hF (e▸f)) (λf=>by omega)
  rw[Below.heap_setCell w p v k hne];exact h.block k hk hF⟩
theorem Fr.drew{F:Nat->Prop}{a w:World}(h:Fr F a w):Fr F a w.drew:=⟨h.os,h.tape,h.output,h.size,h.block⟩
theorem Fr.drewN{F:Nat->Prop}{a w:World}(h:Fr F a w)(n:Nat):Fr F a (w.drewN n):=⟨h.os,h.tape,h.output,h.size,h.block⟩
theorem Fr.grown{F:Nat->Prop}{a w w':World}{row:Option Nat}(h:Fr F a w)(hg:w.grownBy w' row)(hr:∀k,row=some k->F k\/a.heap.size<=k):Fr F a w':=
 ⟨hg.os.trans h.os,hg.tape.trans h.tape,hg.output.trans h.output,Nat.le_trans h.size hg.size,λk hk hF=>by
  have hs:=h.size;rw[hg.block k (by omega) (λe=>(hr k e.symm).elim hF (λq=>by omega))];exact h.block k hk hF⟩
def NoF:Nat->Prop:=λ_=>False
theorem Fr.none{F:Nat->Prop}{w w':World}(h:Fr NoF w w'):Fr F w w':=h.mono (λ_ f=>f.elim)
theorem Blk.fr{w w':World}{b N:Nat}{c:Nat->Value}(h:Blk w b N c){F:Nat->Prop}(f:Fr F w w')(hb:¬F b):Blk w' b N c:=
 h.ofHeap (f.block b h.lt hb)
theorem Fr.cell{F:Nat->Prop}{w w':World}(f:Fr F w w'){p:Addr}(hp:p.block<w.heap.size)(hF:¬F p.block):w'.cell? p=w.cell? p:=
 World.cell?_of_block (w:=w) (f.block p.block hp hF)
theorem Fr.frozen{F:Nat->Prop}{w w':World}(f:Fr F w w'){p:Addr}(hp:p.block<w.heap.size)(hF:¬F p.block):w'.frozen? p=w.frozen? p:=
 World.frozen?_of_block (w:=w) (f.block p.block hp hF)
theorem qs{P:Program}{f:FuncId}{args:Array Value}{w:World}{n:Nat}{v:Value}
  (h:Calls P f args (w.drewN n) λe w'=>e=.returned v/\w.drewN n=w'):Calls P f args (w.drewN n) λe w''=>e=.returned v/\∃m,w''=w.drewN m:=
 h.mono λ_ _ ⟨he,hm⟩=>⟨he,n,hm.symm⟩
def updB(S:Nat->Bool)(x:Nat)(v:Bool):Nat->Bool:=λy=>if y=x then v else S y
theorem updB_same(S:Nat->Bool)(x:Nat)(v:Bool):updB S x v x=v:=by simp[updB]
theorem updB_other(S:Nat->Bool){x y:Nat}(v:Bool)(h:¬y=x):updB S x v y=S y:=by simp[updB,h]
def wordAux(S:Nat->Bool)(base:Nat):Nat->Nat
 |0=>0
 |n+1=>wordAux S base n+(if S (base+n)=true then 2^n else 0)
def wordOf(S:Nat->Bool)(x:Nat):Nat:=wordAux S (64*x) 64
theorem wordAux_lt(S:Nat->Bool)(base:Nat):∀n,wordAux S base n<2^n
 |0=>by simp[wordAux]
 |n+1=>by
  have:=wordAux_lt S base n;unfold wordAux;rw[Nat.pow_succ]
  split<;>omega
theorem wordAux_bit(S:Nat->Bool)(base:Nat):∀n j,(wordAux S base n).testBit j=(decide (j<n)&&S (base+j))
 |0,j=>by simp[wordAux]
 |n+1,j=>by
  have h:=wordAux_bit S base n;have hl:=wordAux_lt S base n;unfold wordAux;by_cases hs:S (base+n)=true
  .rw[if_pos hs,Nat.add_comm,<-Nat.mul_one (2^n),Nat.testBit_two_pow_mul_add 1 hl j]
   by_cases e1:j<n
   .rw[if_pos e1,h j];simp[e1,Nat.lt_succ_of_lt e1]
   .rw[if_neg e1]
    by_cases e2:j=n
    .subst e2;simp[hs]
    .have:¬j<n+1:=by omega
     obtain⟨d,hd⟩:∃d,j-n=d+1:=⟨j-n-1,by omega⟩;rw[hd];simp[this,Nat.testBit_succ]
  .rw[if_neg hs,Nat.add_zero,h j]
   by_cases e2:j=n
   .subst e2;simp at hs;simp[hs]
   .by_cases e1:j<n
    .simp[e1,Nat.lt_succ_of_lt e1]
    .have:¬j<n+1:=by omega
     simp[e1,this]
theorem wordOf_lt(S:Nat->Bool)(x:Nat):wordOf S x<18446744073709551616:=wordAux_lt S _ 64
theorem wordOf_bit(S:Nat->Bool)(x j:Nat):(wordOf S x).testBit j=(decide (j<64)&&S (64*x+j)):=wordAux_bit S _ 64 j
theorem wordOf_eq{S T:Nat->Bool}{x:Nat}(h:∀j,j<64->S (64*x+j)=T (64*x+j)):wordOf S x=wordOf T x:=by
 apply Nat.eq_of_testBit_eq;intro j;rw[wordOf_bit,wordOf_bit];by_cases e:j<64
 .rw[h j e]
 .simp[e]
theorem wordOf_ne{S:Nat->Bool}{x:Nat}:wordOf S x≠0↔∃j,j<64/\S (64*x+j)=true:=by
 constructor
 .intro h
  obtain⟨j,hj⟩:=Nat.exists_testBit_of_ne_zero h;rw[wordOf_bit]at hj;simp at hj;exact⟨j,hj.1,hj.2⟩
 .rintro⟨j,hj,hs⟩h0
  have:=wordOf_bit S x j;rw[h0,hs]at this;simp[hj]at this
theorem wordOf_at(S:Nat->Bool)(x:Nat):wordOf S (x/64)/2^(x%64)%2=if S x=true then 1 else 0:=by
 have h:=wordOf_bit S (x/64) (x%64);rw[show 64*(x/64)+x%64=x from by omega]at h;rw[Nat.testBit_eq_decide_div_mod_eq]at h;have h64:x%64<64:=Nat.mod_lt _ (by omega);simp[h64]at h;by_cases hs:S x=true
 .rw[hs]at h;simp at h;simp[hs,h]
 .rw[Bool.not_eq_true]at hs
  rw[hs]at h;simp at h;simp[hs,h]
theorem wordOf_add(S:Nat->Bool)(x:Nat):wordOf (updB S x true) (x/64)=wordOf S (x/64)|||2^(x%64):=by
 apply Nat.eq_of_testBit_eq;intro j;rw[Nat.testBit_or,wordOf_bit,wordOf_bit,Nat.testBit_two_pow];have h64:x%64<64:=Nat.mod_lt _ (by omega);by_cases e:x%64=j
 .subst e
  rw[show 64*(x/64)+x%64=x from by omega,updB_same];simp[h64]
 .rw[updB_other _ _ (by omega)];simp[e]
theorem wordOf_drop(S:Nat->Bool)(x:Nat):wordOf (updB S x false) (x/64)=wordOf S (x/64)&&&(18446744073709551615-2^(x%64)):=by
 apply Nat.eq_of_testBit_eq;intro j;have h64:x%64<64:=Nat.mod_lt _ (by omega);have hp:2^(x%64)<2^64:=Nat.pow_lt_pow_right (by omega) h64;rw[show(18446744073709551615:Nat)-2^(x%64)=2^64-(2^(x%64)+1)from by omega,Nat.testBit_and,Nat.testBit_two_pow_sub_succ hp,wordOf_bit,wordOf_bit,Nat.testBit_two_pow];by_cases e:x%64=j
 .subst e
  rw[show 64*(x/64)+x%64=x from by omega,updB_same];simp
 .rw[updB_other _ _ (by omega)]
  by_cases hj:j<64
  .simp[e,hj]
  .simp[hj]
theorem wordOf_else(S:Nat->Bool){x y:Nat}(v:Bool)(h:¬y=x/64):wordOf (updB S x v) y=wordOf S y:=
 wordOf_eq (λj hj=>updB_other _ _ (by omega))
def up(S:Nat->Bool):Nat->Bool:=λx=>decide (wordOf S x≠0)
theorem up_iff{S:Nat->Bool}{x:Nat}:up S x=true↔∃j,j<64/\S (64*x+j)=true:=by simp only[up,decide_eq_true_eq];exact wordOf_ne
theorem up_add(S:Nat->Bool)(x:Nat):up (updB S x true)=updB (up S) (x/64) true:=by
 funext y
 by_cases e:y=x/64
 .subst e
  rw[updB_same,up_iff];exact⟨x%64,Nat.mod_lt _ (by omega),by rw[show 64*(x/64)+x%64=x from by omega,updB_same]⟩
 .rw[updB_other _ _ e];unfold up;rw[wordOf_else _ _ e]
theorem up_drop0(S:Nat->Bool)(x:Nat)(h:wordOf (updB S x false) (x/64)=0):up (updB S x false)=updB (up S) (x/64) false:=by
 funext y
 by_cases e:y=x/64
 .subst e
  rw[updB_same];simp[up,h]
 .rw[updB_other _ _ e];unfold up;rw[wordOf_else _ _ e]
theorem up_drop1(S:Nat->Bool)(x:Nat)(h:¬wordOf (updB S x false) (x/64)=0):up (updB S x false)=up S:=by
 funext y
 by_cases e:y=x/64
 .subst e
  have h1:up (updB S x false) (x/64)=true:=by simp[up,h]
  rw[h1]
  symm
  rw[up_iff]at h1⊢;obtain⟨j,hj,hs⟩:=h1;refine⟨j,hj,?_⟩;by_cases e:64*(x/64)+j=x
  .rw[e,updB_same]at hs;cases hs
  .rwa [updB_other _ _ e]at hs
 .unfold up;rw[wordOf_else _ _ e]
def lev(S:Nat->Bool):Nat->Nat->Bool
 |0=>S
 |i+1=>up (lev S i)
def dv(x:Nat):Nat->Nat
 |0=>x
 |i+1=>dv x i/64
theorem dv_le(x:Nat):∀i,dv x i<=x
 |0=>Nat.le_refl _
 |i+1=>by have:=dv_le x i;show dv x i/64<=x;omega
theorem lev_add(S:Nat->Bool)(x:Nat):∀i,lev (updB S x true) i=updB (lev S i) (dv x i) true
 |0=>rfl
 |i+1=>by show up (lev (updB S x true) i)=_;rw[lev_add S x i,up_add];rfl
def szs(bound:Nat):Nat->Nat
 |0=>(bound+63)/64
 |i+1=>(szs bound i+63)/64
theorem dv_lt{bound x:Nat}(h:x<bound):∀i,dv x i/64<szs bound i
 |0=>by show x/64<(bound+63)/64;omega
 |i+1=>by have:=dv_lt h i;show dv x i/64/64<(szs bound i+63)/64;omega
theorem lev_dom{S:Nat->Bool}{bound:Nat}(h:∀x,S x=true->x<bound):∀i x,lev S (i+1) x=true->x<szs bound i
 |0,x,hx=>by
  obtain⟨j,hj,hs⟩:=up_iff.1 hx;have:=h _ hs
  show x<(bound+63)/64
  omega
 |i+1,x,hx=>by
  obtain⟨j,hj,hs⟩:=up_iff.1 hx;have:=lev_dom h i _ hs
  show x<(szs bound i+63)/64
  omega
theorem lev_some{S:Nat->Bool}{x:Nat}(h:S x=true):∀i,lev S i (dv x i)=true
 |0=>h
 |i+1=>up_iff.2 ⟨dv x i%64,Nat.mod_lt _ (by omega),by show lev S i (64*(dv x i/64)+dv x i%64)=true;rw[show 64*(dv x i/64)+dv x i%64=dv x i from by omega];exact lev_some h i⟩
theorem szs_le{bound:Nat}(h:bound<=65535):∀i,szs bound i<=1024
 |0=>by show(bound+63)/64<=1024;omega
 |i+1=>by have:=szs_le h i;show(szs bound i+63)/64<=1024;omega
theorem szs_pos{bound:Nat}(h:1<=bound):∀i,1<=szs bound i
 |0=>by show 1<=(bound+63)/64;omega
 |i+1=>by have:=szs_pos h i;show 1<=(szs bound i+63)/64;omega
theorem szs_two{bound:Nat}(h:bound<=65535):szs bound 2<=1:=by show(((bound+63)/64+63)/64+63)/64<=1;omega
theorem ctz_first{n:Nat}(h0:n≠0)(h:n<18446744073709551616):Lib.ctz 64 n<64/\n.testBit (Lib.ctz 64 n)=true/\∀j,j<Lib.ctz 64 n->n.testBit j=false:=by
 obtain⟨m,hm,hk⟩:=Lib.ctzFrom_spec 64 n (by omega) h;have e:Lib.ctz 64 n=Lib.ctzFrom 64 n:=by simp[Lib.ctz,h0]
 rw[e];generalize Lib.ctzFrom 64 n=k at*;subst hm;refine⟨hk,?_,λj hj=>?_⟩
 .rw[Nat.mul_comm,Nat.testBit_mul_two_pow];simp
 .rw[Nat.mul_comm,Nat.testBit_mul_two_pow];simp;omega
def IsLeast(S:Nat->Bool)(x:Nat):Prop:=S x=true/\∀y,y<x->S y=false
theorem IsLeast.down{S:Nat->Bool}{x:Nat}(h:IsLeast (up S) x):wordOf S x≠0/\IsLeast S (x*64+Lib.ctz 64 (wordOf S x)):=by
 obtain⟨h1,h2⟩:=h;have hne:wordOf S x≠0:=by simpa[up]using h1
 obtain⟨c1,c2,c3⟩:=ctz_first hne (wordOf_lt S x);refine⟨hne,?_,λy hy=>?_⟩
 .rw[wordOf_bit]at c2
  rw[Nat.mul_comm];simpa[c1]using c2
 .by_cases e:y/64=x
  .have:=c3 (y%64) (by omega)
   rw[wordOf_bit]at this;rw[show 64*x+y%64=y from by omega]at this;simpa[show y%64<64 from Nat.mod_lt _ (by omega)]using this
  .have:=h2 (y/64) (by omega)
   cases hy':S y with
   |false=>rfl
   |true=>
    rw[show up S (y/64)=true from up_iff.2 ⟨y%64,Nat.mod_lt _ (by omega),by rw[show 64*(y/64)+y%64=y from by omega];exact hy'⟩]at this
    cases this
theorem IsLeast.unique{S:Nat->Bool}{x y:Nat}(h:IsLeast S x)(k:IsLeast S y):x=y:=by
 rcases Nat.lt_trichotomy x y with q|q|q
 .have:=k.2 x q;rw[h.1]at this;cases this
 .exact q
 .have:=h.2 y q;rw[k.1]at this;cases this
def cntB(S:Nat->Bool):Nat->Nat
 |0=>0
 |n+1=>cntB S n+(if S n=true then 1 else 0)
theorem cntB_le(S:Nat->Bool):∀n,cntB S n<=n
 |0=>Nat.le_refl _
 |n+1=>by have:=cntB_le S n;unfold cntB;split<;>omega
theorem cntB_congr{S T:Nat->Bool}:∀n,(∀x,x<n->S x=T x)->cntB S n=cntB T n
 |0,_=>rfl
 |n+1,h=>by unfold cntB;rw[cntB_congr n (λx hx=>h x (by omega)),h n (by omega)]
theorem cntB_add(S:Nat->Bool){x:Nat}(h:S x=false):∀n,x<n->cntB (updB S x true) n=cntB S n+1
 |0,hx=>by omega
 |n+1,hx=>by
  unfold cntB;by_cases e:x=n
  .subst e
   rw[updB_same,h,cntB_congr (T:=S) x (λy hy=>updB_other _ _ (by omega))];simp
  .rw[cntB_add S h n (by omega),updB_other _ _ (λq=>e q.symm)];omega
theorem cntB_drop(S:Nat->Bool){x:Nat}(h:S x=true):∀n,x<n->cntB (updB S x false) n+1=cntB S n
 |0,hx=>by omega
 |n+1,hx=>by
  unfold cntB;by_cases e:x=n
  .subst e
   rw[updB_same,h,cntB_congr (T:=S) x (λy hy=>updB_other _ _ (by omega))];simp
  .have:=cntB_drop S h n (by omega)
   rw[updB_other _ _ (λq=>e q.symm)];omega
theorem cntB_zero{S:Nat->Bool}:∀{n},cntB S n=0->∀x,x<n->S x=false
 |0,_,x,hx=>by omega
 |n+1,h,x,hx=>by
  unfold cntB at h;have h1:cntB S n=0:=by omega
  by_cases e:x=n
  .subst e
   cases hs:S x with
   |false=>rfl
   |true=>rw[if_pos hs]at h;omega
  .exact cntB_zero h1 x (by omega)
theorem cntB_some{S:Nat->Bool}{n:Nat}(h:cntB S n≠0):∃x,x<n/\S x=true:=by
 apply Classical.byContradiction;intro hno;apply h
 have:∀x,x<n->S x=false:=λx hx=>by
  cases hs:S x with
  |false=>rfl
  |true=>exact(hno ⟨x,hx,hs⟩).elim
 clear h hno
 induction n with
 |zero=>rfl
 |succ n ih=>unfold cntB;rw[ih (λx hx=>this x (by omega)),this n (by omega)];simp
theorem least_ex{S:Nat->Bool}:∀{n},(∃x,x<n/\S x=true)->∃x,x<n/\IsLeast S x
 |0,⟨x,hx,_⟩=>by omega
 |n+1,h=>by
  by_cases q:∃x,x<n/\S x=true
  .obtain⟨x,hx,hl⟩:=least_ex q
   exact⟨x,by omega,hl⟩
  .obtain⟨x,hx,hs⟩:=h
   have e:x=n:=by
    apply Classical.byContradiction;intro e;exact q ⟨x,by omega,hs⟩
   subst e;refine⟨x,by omega,hs,λy hy=>?_⟩
   cases hy':S y with
   |false=>rfl
   |true=>exact(q ⟨y,hy,hy'⟩).elim
def SlC(w:World)(size:Nat)(v:Value)(m:Nat)(news:List Value):Prop:=
 ∃a c,v=.slice a m c/\news.length=m*size/\(∀u∈news,u.oneCell'=true)/\m<=c/\c<=maxLen/\
  ((a=none/\c=0)\/∃b off,a=some ⟨b,off,none⟩/\b<w.heap.size/\∀(j:Nat) (u:Value),news[j]?=some u->w.cell? ⟨b,off+j,none⟩=some u)
theorem SlC.fr{w w':World}{size m:Nat}{v:Value}{news:List Value}(h:SlC w size v m news){G:Nat->Prop}(f:Fr G w w')(hG:∀b,v.ownBlock=some b->¬G b):SlC w' size v m news:=by
 obtain⟨a,c,rfl,h1,h2,h3,h4,h5⟩:=h;refine⟨a,c,rfl,h1,h2,h3,h4,h5.imp id ?_⟩;rintro⟨b,off,rfl,hb,hc⟩;exact⟨b,off,rfl,Nat.lt_of_lt_of_le hb f.size,λj u hj=>by rw[f.cell (p:=⟨b,off+j,none⟩) hb (hG b rfl)];exact hc j u hj⟩
theorem SlC.keep{w w':World}{size m:Nat}{v:Value}{news:List Value}(h:SlC w size v m news)(f:Fr NoF w w'):SlC w' size v m news:=h.fr f (λ_ _ q=>q)
theorem SlC.nil(w:World)(size:Nat):SlC w size (.slice none 0 0) 0 []:=⟨none,0,rfl,by simp,by simp,by omega,by unfold maxLen;omega,.inl ⟨rfl,rfl⟩⟩
theorem SlC.ofOwn{w:World}{base e size:Nat}{v:Value}{n:Nat}{xs:List Value}(h:w.ownsRow base e size v n xs)(h1:∀u∈xs,u.oneCell'=true):SlC w size v n xs:=by
 obtain⟨hl,h2⟩:=h;rcases h2 with⟨rfl,h2⟩|⟨g,cap,cur,rfl,hg,hh,h3,h4,h5,h6⟩
 .subst h2
  have:xs=[]:=List.eq_nil_of_length_eq_zero (by simpa using hl);subst this;exact SlC.nil w size
 .refine⟨_,cap,rfl,hl,h1,h3,h4,.inr ⟨g,0,rfl,?_,?_⟩⟩
  .rcases Nat.lt_or_ge g w.heap.size with h'|h'
   .exact h'
   .simp[Array.getElem?_eq_none h']at hh
  .intro j u hj
   have hjl:j<xs.length:=(List.getElem?_eq_some_iff.1 hj).1;rw[<-h6,List.getElem?_take,if_pos (by omega)]at hj;simpa[World.cell?,hh]using hj
theorem ownBlock_own{w:World}{base e size:Nat}{v:Value}{n:Nat}{xs:List Value}(h:w.ownsRow base e size v n xs):∀b,v.ownBlock=some b->base<=b:=by
 obtain⟨_,h2⟩:=h;rcases h2 with⟨rfl,_⟩|⟨g,cap,cur,rfl,hg,_⟩
 .intro b hb;cases hb
 .intro b hb;simp[Value.ownBlock]at hb;omega
theorem SlC.lt{w:World}{size m:Nat}{v:Value}{news:List Value}(h:SlC w size v m news):∀b,v.ownBlock=some b->b<w.heap.size:=by
 obtain⟨a,c,rfl,_,_,_,_,h5⟩:=h;rcases h5 with⟨rfl,_⟩|⟨b,off,rfl,hb,_⟩
 .intro b hb;cases hb
 .intro k hk;simp[Value.ownBlock]at hk;omega
theorem SlC.cut{w:World}{size m:Nat}{v:Value}{news:List Value}(h:SlC w size v m news){lo hi:Nat}(h1:lo<=hi)(h2:hi<=m){a:Option Addr}{c:Nat}(hv:v=.slice a m c)(hlc:lo<c):
  ∃b off,a=some ⟨b,off,none⟩/\SlC w size (.slice (some ⟨b,off+lo*size,none⟩) (hi-lo) (c-lo)) (hi-lo) ((news.drop (lo*size)).take ((hi-lo)*size)):=by
 obtain⟨a',c',rfl,l1,l2,l3,l4,l5⟩:=h;simp only[Value.slice.injEq]at hv;obtain⟨rfl,_,rfl⟩:=hv;rcases l5 with⟨rfl,rfl⟩|⟨b,off,rfl,hb,hc⟩
 .omega
 .refine⟨b,off,rfl,_,_,rfl,?_,λu hu=>l2 u (List.mem_of_mem_drop (List.mem_of_mem_take hu)),by omega,by omega,.inr ⟨b,_,rfl,hb,λj u hj=>?_⟩⟩
  .have q1:(hi-lo)*size=hi*size-lo*size:=Nat.sub_mul ..
   have q2:lo*size<=hi*size:=Nat.mul_le_mul_right _ h1;have q3:hi*size<=m*size:=Nat.mul_le_mul_right _ h2;rw[List.length_take,List.length_drop,l1];omega
  .rw[List.getElem?_take]at hj
   split at hj
   .rw[List.getElem?_drop]at hj
    rw[Nat.add_assoc];exact hc _ u hj
   .cases hj
structure EI(P:Program)(t e:TypeId)(size bytes:Nat):Prop where
 ex:P.underlying t=some (.slice e)/\∃i z,P.info? e=some i/\i.zero=some z/\i.size=size/\i.bytes=bytes/\z.cells.size=size/\0<size
theorem own_new{w w0:World}(hf:w0.heap.size<=w.heap.size)(cs:Array Value)(e size n g:Nat)(hg:g=w.heap.size)(hs:cs.size=n*size)(hm:n<=maxLen):(w.alloc (.cells cs e)).ownsRow w0.heap.size e size (.slice (some ⟨g,0,none⟩) n n) n cs.toList:=by
 subst hg;exact⟨by simp[hs],.inr ⟨w.heap.size,n,cs,rfl,hf,heap_alloc_new _ _ _ rfl,Nat.le_refl _,hm,hs,by rw[List.take_of_length_le (by simp[hs])]⟩⟩
theorem own_keep{w w':World}{base e size:Nat}{v:Value}{n:Nat}{xs:List Value}(h:w.ownsRow base e size v n xs){G:Nat->Prop}(f:Fr G w w')(hG:∀b,v.ownBlock=some b->¬G b):w'.ownsRow base e size v n xs:=by
 obtain⟨h1,h2⟩:=h;refine⟨h1,h2.imp id ?_⟩;rintro⟨g,cap,cur,rfl,hg,hh,r⟩
 have hl:g<w.heap.size:=by
  rcases Nat.lt_or_ge g w.heap.size with h'|h'
  .exact h'
  .simp[Array.getElem?_eq_none h']at hh
 exact⟨g,cap,cur,rfl,hg,by rw[f.block g hl (hG g rfl)];exact hh,r⟩
theorem heap_drew(w:World):w.drew.heap=w.heap:=rfl
theorem heap_step(w:World)(o o':Obj)(k:Nat)(h:w.heap[k]?=some o'):(w.alloc o).heap[k]?=some o':=by
 rw[Below.heap_alloc w o k ?_];exact h;rcases Nat.lt_or_ge k w.heap.size with h'|h'
 .exact h'
 .simp[Array.getElem?_eq_none h']at h
theorem sl_heap{w:World}{g n e size:Nat}{cs:Array Value}(hh:w.heap[g]?=some (.cells cs e (0,0)))(hs:cs.size=n*size)(hm:n<=maxLen)(h1:∀u∈cs.toList,u.oneCell'=true):
  SlC w size (.slice (some ⟨g,0,none⟩) n n) n cs.toList:=by
 have hl:g<w.heap.size:=by
  rcases Nat.lt_or_ge g w.heap.size with h'|h'
  .exact h'
  .simp[Array.getElem?_eq_none h']at hh
 refine⟨_,n,rfl,by simp[hs],h1,Nat.le_refl _,hm,.inr ⟨g,0,rfl,hl,λj u hj=>?_⟩⟩;simpa[World.cell?,hh]using hj
theorem run_appB{P:Program}{t e size bytes:Nat}(hE:EI P t e size bytes){base:Nat}{w:World}(hbase:base<=w.heap.size)(ty:TypeId){v:Value}{n:Nat}{xs:List Value}(hown:w.ownsRow base e size v n xs)
  {sv:Value}{m:Nat}{news:List Value}(hsrc:SlC w size sv m news)(h63:n+m<=maxLen)(hb:(n+m)*bytes<=140737488355328):
  ∃v' w',(Builtin.append_ #[t,t] ty #[v,sv]).run P w=.ok v' w'/\w'.ownsRow base e size v' (n+m) (xs++news)/\Fr (λb=>v.ownBlock=some b) w w'/\∀b,v'.ownBlock=some b->v.ownBlock=some b\/w.heap.size<=b:=by
 obtain⟨ht,i,z,hi,hz,hsize,hby,hzs,hsz⟩:=hE.ex;obtain⟨a,c,rfl,l1,l2,l3,l4,l5⟩:=hsrc;rcases l5 with⟨rfl,rfl⟩|⟨b,off,rfl,hb',hc⟩
 .obtain rfl:m=0:=by omega
  have:news=[]:=List.eq_nil_of_length_eq_zero (by simpa using l1);subst this;exact⟨v,w,run_append_owned_none (P:=P) w base t ty e i size ht hi v n xs hown,by simpa using hown,Fr.refl _ _,λb hb=>.inl hb⟩
 .obtain⟨v',w',hr,h2,h3,_,h4⟩:=run_append_own_at (P:=P) w base t ty e i z size bytes ht hi hz hsize hby hzs hsz v n xs hown ⟨b,off,none⟩ m c news l1
   (λj u hj=>by
    have:({block:=b,off:=off,spot:=none}:Addr).add j=⟨b,off+j,none⟩:=by
     cases j with
     |zero=>rfl
     |succ j=>simp[Addr.add]
    rw[this];exact hc j u hj) l2 h63 hb hbase
  refine⟨v',w',hr,h2,(Fr.refl _ w).grown h3 (λk hk=>.inl hk),λb hb=>?_⟩;rcases h4 with h4|h4
  .exact .inl (h4▸hb)
  .rw[h4]at hb;right;have:=Option.some.inj hb;omega
section
variable{P:Program}{t e size bytes:Nat}{base:Nat}{w:World}{ops:Array Oper}{o:Oper}{a:Act}{Q:Exit->Act->World->Prop}
theorem wp_appB{K:Act->World->Prop}(hE:EI P t e size bytes)(s x:Operand)(ho:o.op=.call {callee:=.builtin .append,args:=#[s,x],argTypes:=#[t,t]}){v sv:Value}(hs:a.eval s=v)(hx:a.eval x=sv)(hbase:base<=w.heap.size)
  {n:Nat}{xs:List Value}(hown:w.ownsRow base e size v n xs){m:Nat}{news:List Value}(hsrc:SlC w size sv m news)
  (h63:n+m<=maxLen)(hb:(n+m)*bytes<=140737488355328)
  (h:∀v' w',w'.ownsRow base e size v' (n+m) (xs++news)->Fr (λb=>v.ownBlock=some b) w w'->(∀b,v'.ownBlock=some b->v.ownBlock=some b\/w.heap.size<=b)->K (a.put o.dst v') w'):o.wp P a w K Q:=by
 obtain⟨v',w',hr,h2,h3,h4⟩:=run_appB hE hbase o.type hown hsrc h63 hb;unfold Oper.wp execOp;simp only[ho,resolve,invoke,builtin,Sem.run_bind,Sem.run_pure,Result.andThen_ok,List.map_toArray,List.map_cons,List.map_nil,hs,hx,hr];exact h v' w' h2 h3 h4
theorem appLB{rest:List Oper}(hE:EI P t e size bytes)(hgd:o.guard=none)(s x:Operand)(ho:o.op=.call {callee:=.builtin .append,args:=#[s,x],argTypes:=#[t,t]}){v sv:Value}(hs:a.eval s=v)(hx:a.eval x=sv)(hbase:base<=w.heap.size)
  {n:Nat}{xs:List Value}(hown:w.ownsRow base e size v n xs){m:Nat}{news:List Value}(hsrc:SlC w size sv m news)
  (h63:n+m<=maxLen)(hb:(n+m)*bytes<=140737488355328)
  (h:∀v' w',w'.ownsRow base e size v' (n+m) (xs++news)->Fr (λb=>v.ownBlock=some b) w w'->(∀b,v'.ownBlock=some b->v.ownBlock=some b\/w.heap.size<=b)->wpList P ops Q rest (a.put o.dst v') w'):wpList P ops Q (o::rest) a w:=
 wpList_plain hgd λ_ hK=>wp_appB hE s x ho hs hx hbase hown hsrc h63 hb λv' w' h2 h3 h4=>hK _ _ (h v' w' h2 h3 h4)
theorem appSB{K:Act->World->Prop}{E:Prop}(hE:EI P t e size bytes)(hgd:o.guard=none)(s x:Operand)(ho:o.op=.call {callee:=.builtin .append,args:=#[s,x],argTypes:=#[t,t]}){v sv:Value}(hs:a.eval s=v)(hx:a.eval x=sv)(hbase:base<=w.heap.size)
  {n:Nat}{xs:List Value}(hown:w.ownsRow base e size v n xs){m:Nat}{news:List Value}(hsrc:SlC w size sv m news)
  (h63:n+m<=maxLen)(hb:(n+m)*bytes<=140737488355328)
  (h:∀v' w',w'.ownsRow base e size v' (n+m) (xs++news)->Fr (λb=>v.ownBlock=some b) w w'->(∀b,v'.ownBlock=some b->v.ownBlock=some b\/w.heap.size<=b)->K (a.put o.dst v') w'):
  if Region.wanted o (yielded ops a.tmps)=true then Oper.wp P o a w K Q else E:=by
 have hw:Region.wanted o (yielded ops a.tmps)=true:=by simp[Region.wanted,hgd]
 rw[if_pos hw];exact wp_appB hE s x ho hs hx hbase hown hsrc h63 hb h
end
theorem SlC.at{w:World}{size m:Nat}{v:Value}{news:List Value}(h:SlC w size v m news){k:Nat}(hk:k<m)(hs:0<size):
  ∃b off c,v=.slice (some ⟨b,off,none⟩) m c/\m<=c/\c<=maxLen/\b<w.heap.size/\∀(j:Nat) (u:Value),news[j]?=some u->w.cell? ⟨b,off+j,none⟩=some u:=by
 obtain⟨a,c,rfl,l1,l2,l3,l4,l5⟩:=h;rcases l5 with⟨rfl,rfl⟩|⟨b,off,rfl,hb,hc⟩
 .omega
 .exact⟨b,off,c,rfl,l3,l4,hb,hc⟩
theorem SlC.shape{w:World}{size m:Nat}{v:Value}{news:List Value}(h:SlC w size v m news):∃a c,v=.slice a m c/\m<=c/\c<=maxLen:=by
 obtain⟨a,c,rfl,l1,l2,l3,l4,l5⟩:=h;exact⟨a,c,rfl,l3,l4⟩
def SlK(k:IntKind)(w:World)(v:Value)(l:List Nat):Prop:=SlC w 1 v l.length (l.map λ(x:Nat)=>Value.int k (x:Int))
theorem SlK.nil(k:IntKind)(w:World):SlK k w (.slice none 0 0) []:=SlC.nil w 1
theorem SlK.fr{k:IntKind}{w w':World}{v:Value}{l:List Nat}(h:SlK k w v l){G:Nat->Prop}(f:Fr G w w')(hG:∀b,v.ownBlock=some b->¬G b):SlK k w' v l:=SlC.fr h f hG
theorem SlK.at{k:IntKind}{w:World}{v:Value}{l:List Nat}(h:SlK k w v l){i:Nat}(hi:i<l.length):
  ∃b off c,v=.slice (some ⟨b,off,none⟩) l.length c/\l.length<=c/\c<=maxLen/\b<w.heap.size/\w.cell? ⟨b,off+i,none⟩=some (.int k (l[i]:Nat)):=by
 obtain⟨b,off,c,e,h1,h2,h3,h4⟩:=SlC.at h hi (by omega);exact⟨b,off,c,e,h1,h2,h3,h4 i _ (by simp[hi])⟩
theorem SlK.shape{k:IntKind}{w:World}{v:Value}{l:List Nat}(h:SlK k w v l):∃a c,v=.slice a l.length c/\l.length<=c/\c<=maxLen:=SlC.shape h
def OwK(k:IntKind)(base:Nat)(e:TypeId)(w:World)(v:Value)(l:List Nat):Prop:=w.ownsRow base e 1 v l.length (l.map λ(x:Nat)=>Value.int k (x:Int))
theorem OwK.sl{k:IntKind}{base:Nat}{e:TypeId}{w:World}{v:Value}{l:List Nat}(h:OwK k base e w v l):SlK k w v l:=
 SlC.ofOwn h (λu hu=>by obtain⟨z,_,rfl⟩:=List.mem_map.1 hu;rfl)
theorem OwK.nil(k:IntKind)(base:Nat)(e:TypeId)(w:World):OwK k base e w (.slice none 0 0) []:=World.ownsRow_nil _ _ _ _
theorem OwK.base{k:IntKind}{base:Nat}{e:TypeId}{w:World}{v:Value}{l:List Nat}(h:OwK k base e w v l):∀b,v.ownBlock=some b->base<=b:=ownBlock_own h
def bF(ev:Nat->Bool)(i:Nat):Value:=.bool (ev i)
theorem bF_set(ev:Nat->Bool)(i:Nat)(v:Bool):upd (bF ev) i (.bool v)=bF (upd ev i v):=by
 funext j
 by_cases e:j=i
 .subst e;simp[upd_same,bF]
 .rw[upd_other _ _ e];simp[bF,upd_other _ _ e]
theorem made_at{z:Array Value}{N i:Nat}(hi:i<N):(madeCells z N)[i]?=some z[i%z.size]!:=by
 unfold madeCells;rw[Array.getElem?_map,Array.getElem?_range,if_pos hi];rfl
def SlF(w:World)(e:TypeId)(size:Nat)(v:Value)(n:Nat)(c:Nat->Value):Prop:=w.ownsRow 0 e size v n ((List.range (n*size)).map c)
section
variable{w w':World}{e:TypeId}{size n:Nat}{v:Value}{c:Nat->Value}
theorem SlF.nil(w:World)(e:TypeId)(size:Nat)(c:Nat->Value):SlF w e size (.slice none 0 0) 0 c:=by
 unfold SlF;rw[Nat.zero_mul];exact World.ownsRow_nil _ _ _ _
theorem SlF.congr(h:SlF w e size v n c){c':Nat->Value}(hc:∀i,i<n*size->c i=c' i):SlF w e size v n c':=by
 unfold SlF at*;have:(List.range (n*size)).map c=(List.range (n*size)).map c':=List.map_congr_left (λi hi=>hc i (List.mem_range.1 hi));rw[<-this];exact h
theorem SlF.fr(h:SlF w e size v n c){G:Nat->Prop}(f:Fr G w w')(hG:∀b,v.ownBlock=some b->¬G b):SlF w' e size v n c:=own_keep h f hG
theorem SlF.fr0(h:SlF w e size v n c)(f:Fr NoF w w'):SlF w' e size v n c:=own_keep h f (λ_ _ q=>q)
theorem SlF.lt(h:SlF w e size v n c):∀b,v.ownBlock=some b->b<w.heap.size:=λb hb=>(World.ownsRow.lt h b hb).2
theorem SlF.shape(h:SlF w e size v n c):∃a cap,v=.slice a n cap/\n<=cap/\cap<=maxLen:=by
 obtain⟨hl,h2⟩:=h;rcases h2 with⟨rfl,rfl⟩|⟨g,cap,cur,rfl,hg,hh,h3,h4,h5,h6⟩
 .exact⟨none,0,rfl,Nat.le_refl _,by unfold maxLen;omega⟩
 .exact⟨_,cap,rfl,h3,h4⟩
theorem SlF.at(h:SlF w e size v n c)(hn:0<n):∃g cap,v=.slice (some ⟨g,0,none⟩) n cap/\n<=cap/\cap<=maxLen/\g<w.heap.size/\(∀i,w.frozen? ⟨g,i,none⟩=false)/\(∀i,i<n*size->w.cell? ⟨g,i,none⟩=some (c i)):=by
 have hlt:=h.lt;obtain⟨hl,h2⟩:=h;rcases h2 with⟨rfl,rfl⟩|⟨g,cap,cur,rfl,hg,hh,h3,h4,h5,h6⟩
 .omega
 .refine⟨g,cap,rfl,h3,h4,hlt g rfl,λi=>by simp[World.frozen?,hh],λi hi=>?_⟩
  have:((List.range (n*size)).map c)[i]?=some (c i):=by simp[hi]
  rw[<-h6,List.getElem?_take,if_pos (by simpa using hi)]at this;simpa[World.cell?,hh]using this
theorem SlF.set{g cap:Nat}(h:SlF w e size (.slice (some ⟨g,0,none⟩) n cap) n c){i:Nat}(hi:i<n*size)(u:Value):SlF (w.setCell ⟨g,i,none⟩ u) e size (.slice (some ⟨g,0,none⟩) n cap) n (upd c i u):=by
 obtain⟨hl,h2⟩:=h;refine⟨by simp,.inr ?_⟩;rcases h2 with⟨h2,_⟩|⟨g',cap',cur,h2,hg,hh,h3,h4,h5,h6⟩
 .cases h2
 .simp only[Value.slice.injEq,Option.some.injEq,Addr.mk.injEq]at h2
  obtain⟨⟨rfl,_⟩,_,rfl⟩:=h2;refine⟨g,cap,cur.setIfInBounds i u,rfl,Nat.zero_le _,?_,h3,h4,by simp[h5],?_⟩
  .simp[World.setCell,Array.getElem?_modify,hh]
  .apply List.ext_getElem?
   intro j;rw[List.getElem?_take];by_cases hj:j<n*size
   .have h7:((List.range (n*size)).map c)[j]?=some (c j):=by simp[hj]
    rw[<-h6,List.getElem?_take,if_pos (by simpa using hj)]at h7;rw[if_pos (by simpa using hj)];have h8:((List.range (n*size)).map (upd c i u))[j]?=some (upd c i u j):=by simp[hj]
    rw[h8,Array.toList_setIfInBounds,List.getElem?_set];by_cases e1:i=j
    .subst e1
     have hlen:i<cur.toList.length:=(List.getElem?_eq_some_iff.1 h7).1;rw[if_pos rfl,if_pos hlen,upd_same]
    .rw[if_neg e1,h7,upd_other _ _ (λq=>e1 q.symm)]
   .rw[if_neg (by simpa using hj)]
    simp[Nat.le_of_not_lt hj]
theorem SlF.cut{a:Option Addr}{cap:Nat}(h:SlF w e size (.slice a n cap) n c){m:Nat}(hm:m<=n):SlF w e size (.slice a m cap) m c:=by
 obtain⟨hl,h2⟩:=h;refine⟨by simp,?_⟩;rcases h2 with⟨h2,h3⟩|⟨g',cap',cur,h2,hg,hh,h3,h4,h5,h6⟩
 .simp only[Value.slice.injEq]at h2
  obtain⟨rfl,rfl,rfl⟩:=h2
  left
  have:m=0:=by omega
  subst this;exact⟨rfl,rfl⟩
 .simp only[Value.slice.injEq]at h2
  obtain⟨rfl,_,rfl⟩:=h2;refine .inr ⟨g',cap,cur,rfl,hg,hh,by omega,h4,h5,?_⟩;have hmn:m*size<=n*size:=Nat.mul_le_mul_right _ hm;apply List.ext_getElem?;intro j;rw[List.getElem?_take];by_cases hj:j<m*size
  .rw[if_pos (by simpa using hj)]
   have h7:((List.range (n*size)).map c)[j]?=some (c j):=by simp[show j<n*size from by omega]
   rw[<-h6,List.getElem?_take,if_pos (by omega)]at h7;rw[h7];simp[hj]
  .rw[if_neg (by simpa using hj)]
   simp[Nat.le_of_not_lt hj]
theorem range_snoc(c:Nat->Value)(k:Nat)(u:Value):(List.range k).map c++[u]=(List.range (k+1)).map (upd c k u):=by
 rw[List.range_succ,List.map_append]
 congr 1
 .apply List.map_congr_left
  intro i hi;rw[upd_other];have:=List.mem_range.1 hi;omega
 .simp[upd_same]
theorem SlF.snoc1{k:Nat}{u:Value}(h:w.ownsRow 0 e 1 v (k+1) ((List.range (k*1)).map c++[u])):SlF w e 1 v (k+1) (upd c k u):=by
 unfold SlF;rw[Nat.mul_one]at*;rw[<-range_snoc];exact h
theorem SlF.snoc2{k:Nat}{u1 u2:Value}(h:w.ownsRow 0 e 2 v (k+1) ((List.range (k*2)).map c++[u1,u2])):SlF w e 2 v (k+1) (upd (upd c (k*2) u1) (k*2+1) u2):=by
 unfold SlF;rw[show(k+1)*2=k*2+1+1 from by omega,<-range_snoc,<-range_snoc,List.append_assoc];exact h
end
def uN(g:Nat->Nat)(i:Nat):Value:=.int .u32 (g i:Nat)
theorem uN_set(g:Nat->Nat)(i x:Nat):upd (uN g) i (.int .u32 (x:Nat))=uN (upd g i x):=by
 funext j
 by_cases e:j=i
 .subst e;simp[upd_same,uN]
 .rw[upd_other _ _ e];simp[uN,upd_other _ _ e]
end
section
open Go.Proofs.Tryz Go.RowKit
structure TabT(w:World):Prop where
 cell:∀j,j<Lib.deBruijn64tab.length->w.cell? ⟨0,j,none⟩=some (.int .u8 (Lib.deBruijn64tab.getD j 0))
theorem TabT.lt{w:World}(h:TabT w):0<w.heap.size:=World.block_lt_of_cell? (w:=w) (a:=⟨0,0,none⟩) (h.cell 0 (by decide))
theorem TabT.fr{w w':World}(h:TabT w){F:Nat->Prop}(f:Fr F w w')(hF:¬F 0):TabT w':=
 ⟨λj hj=>by rw[f.cell (p:=⟨0,j,none⟩) h.lt hF];exact h.cell j hj⟩
theorem TabT.fr0{w w':World}(h:TabT w)(f:Fr NoF w w'):TabT w':=h.fr f id
theorem tz_core(x k idx:Nat)(w:World)(hx0:((x:Int)==0)=false)
  (key:IntKind.u64.wrap (bits BinOp.and IntKind.u64 (x:Int) (IntKind.u64.wrap (-(x:Int)))*285870213051353865)/288230376151711744=(idx:Int))
  (hi:idx<64)(hk:k<64)(hcell:w.cell? ⟨0,idx,none⟩=some (.int .u8 k)):
  Calls prog 87 #[.int .u64 x] w λe w'=>e=.returned (.int .i64 k)/\w'=w:=by
 go_enter func87,ntmps87
 go_wp2_with(simp only[key])
 go_ret
 exact⟨rfl,rfl⟩
theorem tz_key(x a:Nat)(hx:x<18446744073709551616)(hx0:x≠0)(hlow:x&&&(18446744073709551616-x)=a):
  IntKind.u64.wrap (bits BinOp.and IntKind.u64 (x:Int) (IntKind.u64.wrap (-(x:Int)))*285870213051353865)/288230376151711744=((a*285870213051353865%18446744073709551616/288230376151711744:Nat):Int):=by
 have e1:IntKind.u64.wrap (-(x:Int))=((18446744073709551616-x:Nat):Int):=by rw[IntKind.wrap_u64];omega
 rw[e1,bits_and_u64_nat x _ hx (by omega),hlow,IntKind.wrap_u64];omega
theorem tz_calls{w:World}(hT:TabT w){x:Nat}(hx:x<18446744073709551616)(hx0:x≠0):
  Calls prog 87 #[.int .u64 x] w λe w'=>e=.returned (.int .i64 (Lib.ctz 64 x))/\w'=w:=by
 obtain⟨hlow,hk⟩:=Lib.lowest_bit 64 x hx0 hx;obtain⟨hi,htab⟩:=Lib.deBruijn64_at _ hk;have hcell:=hT.cell _ hi;rw[htab]at hcell;exact tz_core x _ _ w (by simp;omega) (tz_key x _ hx hx0 hlow) hi hk hcell
def wC(S:Nat->Bool)(x:Nat):Value:=.int .u64 (wordOf S x:Nat)
def rowC(h:Nat->Nat)(bound:Nat)(i:Nat):Value:=.slice (some ⟨h i,0,none⟩) (szs bound i) (szs bound i)
structure LR(w:World)(bound:Nat)(v:Value)(h:Nat->Nat)(L:Nat)(T:Nat->Nat->Bool):Prop where
 lo:1<=bound
 hi:bound<=65535
 row:SlF w 148 1 v L (rowC h bound)
 lv:∀i,i<L->Blk w (h i) (szs bound i) (wC (T i))
 inj:∀i j,i<L->j<L->h i=h j->i=j
 apart:∀i,i<L->¬v.ownBlock=some (h i)
 one:1<=L
 top:szs bound (L-1)=1
 small:L<=4
structure LS(w:World)(bound:Nat)(S:Nat->Bool)(v:Value)(h:Nat->Nat)(L:Nat):Prop where
 r:LR w bound v h L (lev S)
 dom:∀x,S x=true->x<bound
def LF(v:Value)(h:Nat->Nat)(L:Nat):Nat->Prop:=λk=>v.ownBlock=some k\/∃i,i<L/\h i=k
section
variable{w w':World}{b off N bound L:Nat}{c:Nat->Value}{S:Nat->Bool}{v:Value}{h:Nat->Nat}{T:Nat->Nat->Bool}
theorem LR.fr(H:LR w bound v h L T){G:Nat->Prop}(f:Fr G w w')(hG:∀k,LF v h L k->¬G k):LR w' bound v h L T:=
 ⟨H.lo,H.hi,H.row.fr f (λb q=>hG b (.inl q)),λi hi=>(H.lv i hi).fr f (hG _ (.inr ⟨i,hi,rfl⟩)),H.inj,H.apart,H.one,H.top,H.small⟩
theorem LR.lt(H:LR w bound v h L T):∀k,LF v h L k->k<w.heap.size:=by
 rintro k(q|⟨i,hi,rfl⟩)
 .exact H.row.lt k q
 .exact(H.lv i hi).lt
theorem LR.congr(H:LR w bound v h L T){T':Nat->Nat->Bool}(e:∀i,i<L->T i=T' i):LR w bound v h L T':=
 ⟨H.lo,H.hi,H.row,λi hi=>by rw[<-e i hi];exact H.lv i hi,H.inj,H.apart,H.one,H.top,H.small⟩
structure LvAt(w:World)(g cap hb sz L k:Nat)(y W:Nat):Prop where
 gl:g<w.heap.size
 hl:hb<w.heap.size
 row:w.cell? ⟨g,k,none⟩=some (.slice (some ⟨hb,0,none⟩) sz sz)
 word:w.cell? ⟨hb,y,none⟩=some (.int .u64 W)
 fr:w.frozen? ⟨hb,y,none⟩=false
 sz:y<sz/\sz<=1024
theorem LR.shape(H:LR w bound v h L T):∃g cap,v=.slice (some ⟨g,0,none⟩) L cap/\L<=cap/\cap<=9223372036854775807:=by
 obtain⟨g,cap,e,g1,g2,_⟩:=H.row.at (by have:=H.one;omega);unfold maxLen at g2;exact⟨g,cap,e,g1,by omega⟩
theorem LR.at{g cap:Nat}(H:LR w bound (.slice (some ⟨g,0,none⟩) L cap) h L T){k y:Nat}(hk:k<L)(hy:y<szs bound k):LvAt w g cap (h k) (szs bound k) L k y (wordOf (T k) y):=by
 obtain⟨g',cap',e,g1,g2,g3,g4,g5⟩:=H.row.at (by omega);simp only[Value.slice.injEq,Option.some.injEq,Addr.mk.injEq]at e;obtain⟨⟨rfl,_⟩,_,rfl⟩:=e;exact⟨g3,(H.lv k hk).lt,g5 k (by omega),(H.lv k hk).cell hy,(H.lv k hk).frozen y,hy,szs_le H.hi k⟩
def updT(T:Nat->Nat->Bool)(k:Nat)(S:Nat->Bool):Nat->Nat->Bool:=λi=>if i=k then S else T i
theorem LR.set(H:LR w bound v h L T){k x:Nat}(hk:k<L)(vv:Bool):LR (w.setCell ⟨h k,x/64,none⟩ (.int .u64 (wordOf (updB (T k) x vv) (x/64):Nat))) bound v h L (updT T k (updB (T k) x vv)):=by
 have f:Fr (λi=>i=h k) w (w.setCell ⟨h k,x/64,none⟩ (.int .u64 (wordOf (updB (T k) x vv) (x/64):Nat))):=(Fr.refl (λi=>i=h k) w).setCell (p:=⟨h k,x/64,none⟩) (.inl rfl) _;refine⟨H.lo,H.hi,H.row.fr f (λb q e=>H.apart k hk (by rw[q,e])),λi hi=>?_,H.inj,H.apart,H.one,H.top,H.small⟩;by_cases e:i=k
 .subst e
  refine((H.lv i hi).set _ _).congr (λy hy=>?_);unfold updT;rw[if_pos rfl];by_cases e2:y=x/64
  .subst e2;rw[upd_same];rfl
  .rw[upd_other _ _ e2];unfold wC;rw[wordOf_else _ _ e2]
 .unfold updT
  rw[if_neg e];exact(H.lv i hi).fr f (λq=>e (H.inj _ _ hi hk q))
structure LC(w:World)(b off N:Nat)(c:Nat->Value)(bound:Nat)(S:Nat->Bool)(v:Value)(h:Nat->Nat)(L:Nat):Prop where
 blk:Blk w b N c
 inb:off+2<N
 c0:c off=.int .i64 bound
 c1:c (off+1)=.int .i64 (cntB S bound:Nat)
 c2:c (off+2)=v
 ls:LS w bound S v h L
 nb:¬LF v h L b
def hasZ(S:Nat->Bool)(x:Int):Bool:=if x<0 then false else S x.toNat
theorem LC.cell0(H:LC w b off N c bound S v h L):w.cell? ⟨b,off,none⟩=some (.int .i64 bound):=by have:=H.blk.cell (i:=off) (by have:=H.inb;omega);rwa [H.c0]at this
theorem LC.cell1(H:LC w b off N c bound S v h L):w.cell? ⟨b,off+1,none⟩=some (.int .i64 (cntB S bound:Nat)):=by have:=H.blk.cell (i:=off+1) (by have:=H.inb;omega);rwa [H.c1]at this
theorem LC.cell2(H:LC w b off N c bound S v h L):w.cell? ⟨b,off+2,none⟩=some v:=by have:=H.blk.cell (i:=off+2) (by have:=H.inb;omega);rwa [H.c2]at this
theorem LC.out{x:Int}(H:LC w b off N c bound S v h L)(hx:(bound:Int)<=x):hasZ S x=false:=by
 unfold hasZ
 split
 .rfl
 .cases e:S x.toNat with
  |false=>rfl
  |true=>have:=H.ls.dom _ e;omega
theorem has_neg(H:LC w b off N c bound S v h L){x:Int}(hx:x<0\/(bound:Int)<=x):Calls prog 76 #[.pointer (some ⟨b,off,none⟩),.int .i64 x] w λe w'=>e=.returned (.bool false)/\w=w':=by
 have q0:=H.cell0;have lb:=H.blk.lt;clear H;by_cases hx0:x<0
 .have g0:decide (0<=x)=false:=by simp;omega
  go_enter func76,ntmps76;go_wp2;go_returns;exact⟨rfl,rfl⟩
 .have g0:decide (0<=x)=true:=by simp;omega
  have g1:decide (x<(bound:Int))=false:=by simp;omega
  go_enter func76,ntmps76;go_wp2;go_returns;exact⟨rfl,rfl⟩
theorem has_in(H:LC w b off N c bound S v h L){x:Nat}(hx:x<bound):Calls prog 76 #[.pointer (some ⟨b,off,none⟩),.int .i64 x] w λe w'=>e=.returned (.bool (S x))/\w=w':=by
 have q0:=H.cell0;have q2:=H.cell2;have lb:=H.blk.lt;have hL:=H.ls.r.one;obtain⟨g,cap,rfl,g1,g2⟩:=H.ls.r.shape;obtain⟨r0,r1,r2,r3,_,r4,r5⟩:=H.ls.r.at (k:=0) (y:=x/64) (by omega) (dv_lt hx 0);have hhi:=H.ls.r.hi;have HB:=wordOf_at S x;have hW:=wordOf_lt S (x/64);rw[show lev S 0=S from rfl]at r3;generalize szs bound 0=sz at*;generalize h 0=hb at*;have hk2:decide ((x:Int)<(bound:Int))=true:=by simpa using hx
 have key:(bits BinOp.and IntKind.u64 (((wordOf S (x/64):Nat):Int)/2^(x%64)) 1==1)=S x:=by
  have e1:((wordOf S (x/64):Nat):Int)/2^(x%64)=((wordOf S (x/64)/2^(x%64):Nat):Int):=by simp
  rw[e1,show(1:Int)=((1:Nat):Int)from rfl,u64_and_nat _ _ (by have:=Nat.div_le_self (wordOf S (x/64)) (2^(x%64));omega) (by omega),nat_mask1,HB]
  cases S x<;>simp
 generalize wordOf S (x/64)=W at*;clear H HB;go_enter func76,ntmps76;go_wp2;go_returns;exact⟨rfl,rfl⟩
theorem has_calls(H:LC w b off N c bound S v h L)(x:Int):Calls prog 76 #[.pointer (some ⟨b,off,none⟩),.int .i64 x] w λe w'=>e=.returned (.bool (hasZ S x))/\w=w':=by
 by_cases h0:x<0
 .have e:hasZ S x=false:=by unfold hasZ;rw[if_pos h0]
  rw[e];exact has_neg H (.inl h0)
 .by_cases h1:(bound:Int)<=x
  .rw[H.out h1];exact has_neg H (.inr h1)
  .obtain⟨n,rfl⟩:=Int.eq_ofNat_of_zero_le (show 0<=x by omega)
   have e:hasZ S n=S n:=by unfold hasZ;rw[if_neg h0];rfl
   rw[e];exact has_in H (by omega)
end
end
end Go.Proofs.YtpkbkhffglikhaaGreatDoor
