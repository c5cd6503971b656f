/- Part 10. -/
import Derived.Test.YtcccbdnojlmgaaaK08
namespace Go.Proofs.Ytcccbdnojlmgaaa
set_option linter.all false
set_option maxHeartbeats 16000000
set_option maxRecDepth 100000
section
open Go.Maps Go.RowKit
def memK(K:Nat->Option (Int×Int)):Th->Prop:=fun t=>∃x:Nat,t.x=x∧K x=some (t.a,t.b)
def updK(K:Nat->Option (Int×Int))(x:Nat)(y:Option (Int×Int)):Nat->Option (Int×Int):=fun z=>if z=x then y else K z
theorem updK_same(K:Nat->Option (Int×Int))(x:Nat)(y:Option (Int×Int)):updK K x y x=y:=if_pos rfl
theorem updK_other(K:Nat->Option (Int×Int)){x z:Nat}(y:Option (Int×Int))(h:¬z=x):updK K x y z=K z:=if_neg h
theorem updK_none{K:Nat->Option (Int×Int)}{x:Nat}(h:K x=none):updK K x none=K:=by
 funext z;unfold updK;split
 .subst_vars;exact h.symm
 .rfl
def QK(w:World)(qb:Nat)(K:Nat->Option (Int×Int))(n:Nat)(F:Nat->Prop):Prop:=QS w qb (memK K) n F
def lessN(n:Nat)(o:Bool):Nat:=if o then n-1 else n
def moreN(n:Nat)(o:Bool):Nat:=if o then n else n+1
def okN(x:Nat):Prop:=x<4294967296
theorem i64_in{z:Int}(h: -9223372036854775808<=z∧z<=9223372036854775807):i64 z:=by
 have e1:IntKind.i64.min= -9223372036854775808:=rfl;have e2:IntKind.i64.max=9223372036854775807:=rfl;have:IntKind.i64.min<=z∧z<=IntKind.i64.max:=by rw[e1,e2];exact h
 unfold i64;simpa[Lit.wf]using this
theorem okN_i64{x:Nat}(h:okN x):i64 (x:Int):=by
 have h:x<4294967296:=h;exact i64_in ⟨by omega,by omega⟩
section
variable{w w':World}{qb n:Nat}{F:Nat->Prop}{K:Nat->Option (Int×Int)}{M:Th->Prop}
theorem QK.fr(h:QK w qb K n F){G:Nat->Prop}(f:Fr G w w')(hG:∀i,F i->¬G i):QK w' qb K n F:=QS.fr h f hG
theorem QK.fr0(h:QK w qb K n F)(f:Fr NoF w w'):QK w' qb K n F:=QS.fr0 h f
theorem QK.lt(h:QK w qb K n F):∀i,F i->i<w.heap.size:=QS.lt h
theorem QK.zero(h:QK w qb K 0 F)(x:Nat):K x=none:=by
 obtain⟨a,hr,hh,hM⟩:=h
 cases e:K x with
 |none=>rfl
 |some p=>obtain⟨k,hk,_⟩:=(hM ⟨x,p.1,p.2⟩).1 ⟨x,rfl,e⟩;omega
theorem QK.pos(h:QK w qb K n F){x:Nat}(hx:(K x).isSome=true):0<n:=by
 cases n with
 |zero=>rw[h.zero x]at hx;cases hx
 |succ n=>omega
theorem qk_new(w:World):Calls Try.prog 13 #[] w fun e w'=>e=.returned (.pointer (some ⟨w.heap.size,0,none⟩))∧QK w' w.heap.size (fun _=>none) 0 (fun i=>i=w.heap.size)∧Fr NoF w w':=
 (qu_new w).mono fun e w' ⟨he,h,f⟩=>⟨he,h.congr (fun t=>⟨fun q=>q.elim,fun⟨x,_,q⟩=>by cases q⟩),f⟩
theorem qk_len(h:QK w qb K n F):Calls Try.prog 38 #[.pointer (some ⟨qb,0,none⟩)] w fun e w'=>e=.returned (.int .i64 (n:Nat))∧w=w':=qu_len h
theorem memK_no{x:Nat}(h:K x=none):∀u,memK K u->¬u.x=(x:Int):=by
 rintro u⟨z,hz,hk⟩e;rw[e]at hz;obtain rfl:x=z:=by omega
 rw[h]at hk
 cases hk
theorem qk_put(h:QK w qb K n F){x:Nat}{a b:Int}(hx:okN x)(ha:i64 a)(hb:i64 b)(hn:n<900000):Calls Try.prog 49 #[.pointer (some ⟨qb,0,none⟩),.int .i64 x,.agg #[.int .i64 a,.int .i64 b]] w fun e w'=>e=.returned (.tuple #[])∧∃F',QK w' qb (updK K x (some (a,b))) (moreN n (K x).isSome) F'∧Fr F w w'∧∀i,F' i->F i∨w.heap.size<=i:=by
 have hok:thOk ⟨x,a,b⟩:=⟨okN_i64 hx,ha,hb⟩
 cases e:K x with
 |none=>
  refine(qu_put_new h hok hn (memK_no e)).mono ?_;rintro e' w'⟨he,F',hq,hf,hF⟩;refine⟨he,F',hq.congr (fun t=>⟨?_,?_⟩),hf,hF⟩
  .rintro(rfl|⟨z,hz,hk⟩)
   .exact⟨x,rfl,updK_same _ _ _⟩
   .exact⟨z,hz,by rw[updK_other _ _ (fun q=>by subst q;rw[e]at hk;cases hk)];exact hk⟩
  .rintro⟨z,hz,hk⟩
   by_cases q:z=x
   .subst q
    rw[updK_same]at hk
    injection hk with hk
    injection hk with h1 h2
    left
    cases t;simp_all
   .rw[updK_other _ _ q]at hk
    exact .inr ⟨z,hz,hk⟩
 |some p=>
  refine(qu_put_old h hok ⟨⟨x,p.1,p.2⟩,⟨x,rfl,e⟩,rfl⟩).mono ?_;rintro e' w'⟨he,hq,hf⟩;refine⟨he,F,hq.congr (fun t=>⟨?_,?_⟩),hf,fun i q=>.inl q⟩
  .rintro(rfl|⟨⟨z,hz,hk⟩,hne⟩)
   .exact⟨x,rfl,updK_same _ _ _⟩
   .exact⟨z,hz,by rw[updK_other _ _ (fun q=>by subst q;exact hne hz)];exact hk⟩
  .rintro⟨z,hz,hk⟩
   by_cases q:z=x
   .subst q
    rw[updK_same]at hk
    injection hk with hk
    injection hk with h1 h2
    left
    cases t;simp_all
   .rw[updK_other _ _ q]at hk
    exact .inr ⟨⟨z,hz,hk⟩,fun q'=>q (Int.ofNat.inj (hz.symm.trans q'))⟩
theorem qk_drop(h:QK w qb K n F){x:Nat}(hx:okN x):Calls Try.prog 28 #[.pointer (some ⟨qb,0,none⟩),.int .i64 x] w fun e w'=>e=.returned (.bool (K x).isSome)∧QK w' qb (updK K x none) (lessN n (K x).isSome) F∧Fr F w w':=by
 cases e:K x with
 |none=>
  refine(qu_drop_no h (okN_i64 hx) (memK_no e)).mono ?_;rintro e' w'⟨he,rfl⟩;exact⟨he,by rw[updK_none e];exact h,Fr.refl _ _⟩
 |some p=>
  obtain⟨m,rfl⟩:∃m,n=m+1:=⟨n-1,by have:=h.pos (x:=x) (by rw[e];rfl);omega⟩;refine(qu_drop_yes h ⟨⟨x,p.1,p.2⟩,⟨x,rfl,e⟩,rfl⟩).mono ?_;rintro e' w'⟨he,hq,hf⟩;refine⟨he,hq.congr (fun t=>⟨?_,?_⟩),hf⟩
  .rintro⟨⟨z,hz,hk⟩,hne⟩
   exact⟨z,hz,by rw[updK_other _ _ (fun q=>by subst q;exact hne hz)];exact hk⟩
  .rintro⟨z,hz,hk⟩
   by_cases q:z=x
   .subst q
    rw[updK_same]at hk
    cases hk
   .rw[updK_other _ _ q]at hk
    exact⟨⟨z,hz,hk⟩,fun q'=>q (Int.ofNat.inj (hz.symm.trans q'))⟩
def keyOf(o:Option (Int×Int)):Value:=.agg #[.int .i64 (o.getD (0,0)).1,.int .i64 (o.getD (0,0)).2]
theorem qk_of_yes(h:QS w qb M n F){t:Th}(ht:M t):Calls Try.prog 48 #[.pointer (some ⟨qb,0,none⟩),.int .i64 t.x] w fun e w'=>e=.returned (.tuple #[.agg #[.int .i64 t.a,.int .i64 t.b],.bool true])∧Fr NoF w w':=by
 obtain⟨a,⟨lv,mo,g,h,hF⟩,hh,hM⟩:=h;obtain⟨k,hk,rfl⟩:=(hM t).1 ht;have fA:Fr NoF w (w.alloc (.cells #[.int .i64 0,.int .i64 0] 89)):=(Fr.refl NoF w).alloc _;have hA:=h.fr0 fA;have HFI:=Lib.hid (qc_find_yes hA hk);have c0:=hA.c0;have lb:=hA.hd.lt;have hsm:=h.sm;obtain⟨gb,cap,rfl,g1,g2,g3,g4,i0,i1,i2⟩:=hA.el hk
 have hgl:¬gb=w.heap.size:=by
  obtain⟨gb',cap',e,_,_,q,_⟩:=h.el hk;simp only[Value.slice.injEq,Option.some.injEq,Addr.mk.injEq]at e;obtain⟨⟨rfl,_⟩,_,_⟩:=e;omega
 generalize(a k).x=tx at*;generalize(a k).a=ta at*;generalize(a k).b=tb at*;clear h hA hF hh hM ht fA;go_enter Try.func48,Try.ntmps48
 go_wp2_with fail
 refine HFI.out.mono ?_;rintro e w1⟨rfl,rfl⟩;go_wp2;go_returns;exact⟨rfl,(Fr.refl NoF w).alloc _⟩
theorem qk_of_no(h:QS w qb M n F){x:Int}(hx:i64 x)(hne:∀u,M u->¬u.x=x):Calls Try.prog 48 #[.pointer (some ⟨qb,0,none⟩),.int .i64 x] w fun e w'=>e=.returned (.tuple #[.agg #[.int .i64 0,.int .i64 0],.bool false])∧Fr NoF w w':=by
 obtain⟨a,⟨lv,mo,g,h,hF⟩,hh,hM⟩:=h;have fA:Fr NoF w (w.alloc (.cells #[.int .i64 0,.int .i64 0] 89)):=(Fr.refl NoF w).alloc _;have HC:=Lib.hid (qc_find_no (h.fr0 fA) hx (fun k hk=>hne _ ((hM _).2 ⟨k,hk,rfl⟩)));clear h hF hh hM hne hx fA;go_enter Try.func48,Try.ntmps48
 go_wp2_with fail
 refine HC.out.mono ?_;rintro e w1⟨rfl,rfl⟩;go_wp2;go_returns;exact⟨rfl,(Fr.refl NoF w).alloc _⟩
theorem qk_of(h:QK w qb K n F){x:Nat}(hx:okN x):Calls Try.prog 48 #[.pointer (some ⟨qb,0,none⟩),.int .i64 x] w fun e w'=>e=.returned (.tuple #[.agg #[.int .i64 ((K x).getD (0,0)).1,.int .i64 ((K x).getD (0,0)).2],.bool (K x).isSome])∧Fr NoF w w':=by
 cases e:K x with
 |none=>exact qk_of_no h (okN_i64 hx) (memK_no e)
 |some p=>exact qk_of_yes h (t:=⟨x,p.1,p.2⟩) ⟨x,rfl,e⟩
def LeastK(K:Nat->Option (Int×Int))(x:Nat):Prop:=∃a b,K x=some (a,b)∧∀y c d,K y=some (c,d)->a<c∨(a=c∧(b<d∨(b=d∧x<=y)))
theorem qk_least_no(h:QK w qb K 0 F):Calls Try.prog 51 #[.pointer (some ⟨qb,0,none⟩)] w fun e w'=>e=.returned (.tuple #[.int .i64 0,.bool false])∧w=w':=qu_least_no h
theorem qk_least(h:QK w qb K n F)(hn:0<n):∃x:Nat,LeastK K x∧Hid (∀W,Fr NoF w W->Calls Try.prog 51 #[.pointer (some ⟨qb,0,none⟩)] W fun e w'=>e=.returned (.tuple #[.int .i64 x,.bool true])∧W=w'):=by
 obtain⟨t,⟨⟨x,hx,hk⟩,hl⟩,hc⟩:=qu_least_yes h hn;rw[hx]at hc;refine⟨x,⟨t.a,t.b,hk,fun y c d hy=>?_⟩,hc⟩;have h1:=hl ⟨y,c,d⟩ ⟨y,rfl,hy⟩;rw[ltT_not]at h1;simp only[hx]at h1;omega
end
end
end Go.Proofs.Ytcccbdnojlmgaaa
