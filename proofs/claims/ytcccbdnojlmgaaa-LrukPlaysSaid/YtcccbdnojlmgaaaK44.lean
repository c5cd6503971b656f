/- Part 44. -/
import Derived.Test.YtcccbdnojlmgaaaK42
import Derived.Test.YtcccbdnojlmgaaaK43
namespace Go.Proofs.Ytcccbdnojlmgaaa
set_option linter.all false
set_option maxHeartbeats 16000000
set_option maxRecDepth 100000
section
open Go.RowKit
def PR5(pb K near kept n:Nat):PRel S5:=fun w s F D=>∃gb ob hc pv,M5 w pb gb ob n K near kept hc s pv∧(∀i,F i↔F5 pb gb ob hc i)∧∀i,D i↔D5 pb gb ob hc s pv i
def co5(K kept n:Nat):Nat->S5->List Nat->Prop:=fun k s fr=>Inv5 K kept n s∧s.page=fr∧s.T<=k∧s.T<=1000
theorem PR5_fr{pb K near kept n:Nat}:PFr (PR5 pb K near kept n) where
 fr:=by
  rintro w w' s F D G⟨gb,ob,hc,pv,h,hF,hD⟩f hd;exact⟨gb,ob,hc,pv,h.fr f (fun i q=>hd i ((hD i).2 q)),hF,hD⟩
 sub:=by
  rintro w s F D⟨gb,ob,hc,pv,h,hF,hD⟩i hi;refine(hD i).2 ?_;rcases(hF i).1 hi with q|q
  .exact .inl (.inl q)
  .exact .inr (.inl q)
 lt:=by
  rintro w s F D⟨gb,ob,hc,pv,h,hF,hD⟩i hi;exact h.lt i ((hD i).1 hi)
theorem Res5.left{w w':World}{pb gb ob n K near kept:Nat}{hc:Nat->Value}{s s':S5}{pv:List (Pa×Value)}{F D:Nat->Prop}(h:Res5 w pb gb ob n K near kept hc s pv s' w')(hF:∀i,F i↔F5 pb gb ob hc i)(hD:∀i,D i↔D5 pb gb ob hc s pv i):Left (PR5 pb K near kept n) w s' F D w':=by
 obtain⟨hc',pv',h⟩:=h;exact⟨F5 pb gb ob hc',D5 pb gb ob hc' s' pv',⟨gb,ob,hc',pv',h.m,fun _=>Iff.rfl,fun _=>Iff.rfl⟩,h.f.mono (fun i q=>(hF i).2 q),fun i q=>(h.s0 i q).imp (fun q=>(hF i).2 q) id,fun i q=>(h.d i q).imp (fun q=>(hD i).2 q) id⟩
theorem keep5{w w':World}{pb gb ob n K near kept:Nat}{hc:Nat->Value}{s:S5}{pv:List (Pa×Value)}{F D:Nat->Prop}(h:M5 w pb gb ob n K near kept hc s pv)(hF:∀i,F i↔F5 pb gb ob hc i)(hD:∀i,D i↔D5 pb gb ob hc s pv i)(f:Fr NoF w w'):Left (PR5 pb K near kept n) w s F D w':=
 ⟨F,D,⟨gb,ob,hc,pv,h.fr0 f,hF,hD⟩,f.none,fun i q=>.inl q,fun i q=>.inl q⟩
section
variable{w w' w0 w2:World}{pb gb ob n K near kept:Nat}{hc hc':Nat->Value}{s s':S5}{pv pv':List (Pa×Value)}
theorem s5_access(h:M5 w pb gb ob n K near kept hc s pv)(hi:Inv5 K kept n s)(hT:s.T<10000)(hK:K<1000)(hr:near<1000)(hk:kept<1000){a id:Nat}(ha:a<n):Calls Try.prog 23 #[.pointer (some ⟨pb,0,none⟩),.int .i64 a,.int .u32 id] w fun e w'=>e=.returned (.tuple #[])∧Res5 w pb gb ob n K near kept hc s pv (s.access K near a id) w':=by
 cases hg:getP s.ps id with
 |none=>exact s5_access_new h hi hT hK hr hk ha hg
 |some p0=>
  by_cases hf:near<s.T+1-p0.l
  .exact s5_access_far h hi hT hK hr hk ha hg hf
  .exact s5_access_near h hi hT hK hr hk ha hg hf
end
theorem s5_new(n K near kept:Nat)(w:World)(hn:n<1000)(hK:K<1000)(hr:near<1000)(hk:kept<1000):
  Calls Try.prog 8 #[.int .i64 n,.int .i64 K,.int .i64 near,.int .i64 kept] w fun e w'=>∃pb F D,e=.returned (.pointer (some ⟨pb,0,none⟩))∧PR5 pb K near kept n w' ⟨List.replicate n 0,fun _=>false,[],[],0⟩ F D∧(∀i,D i->w.heap.size<=i)∧Fr NoF w w':=by
 obtain⟨i0,hi0,hz0,hz1,hz2⟩:=info_parts' (P:=Try.prog) (e:=35) (z:=.int .u32 0) (s:=1) (b:=4) (by kernel_rfl);obtain⟨i1,hi1,hy0,hy1,hy2⟩:=info_parts' (P:=Try.prog) (e:=4) (z:=.bool false) (s:=1) (b:=1) (by kernel_rfl)
 have mk1:∀w:World,(Instr.makeSlice 36 (.int .i64 (n:Int)) (.int .i64 (n:Int))).run Try.prog w=
   .ok (.slice (some ⟨w.heap.size,0,none⟩) n n) (w.alloc (.cells (madeCells #[.int .u32 0] n) 35)):=by
  intro w;have:=run_make (P:=Try.prog) w 36 35 i0 _ Try.underlying36 hi0 hz0 .i64 .i64 (n:Int) (n:Int) (by omega) (Int.le_refl _) (by rw[hz2];omega) (by omega);rw[show((n:Int)).toNat=n from by omega,hz1,Nat.mul_one]at this;exact this
 have mk2:∀w:World,(Instr.makeSlice 60 (.int .i64 (n:Int)) (.int .i64 (n:Int))).run Try.prog w=
   .ok (.slice (some ⟨w.heap.size,0,none⟩) n n) (w.alloc (.cells (madeCells #[.bool false] n) 4)):=by
  intro w;have:=run_make (P:=Try.prog) w 60 4 i1 _ Try.underlying60 hi1 hy0 .i64 .i64 (n:Int) (n:Int) (by omega) (Int.le_refl _) (by rw[hy2];omega) (by omega);rw[show((n:Int)).toNat=n from by omega,hy1,Nat.mul_one]at this;exact this
 have KEY:Hid (∀(wz:World) (gb ob pb:Nat),wz.heap[gb]?=some (.cells (madeCells #[.int .u32 0] n) 35 (0,0))->wz.heap[ob]?=some (.cells (madeCells #[.bool false] n) 4 (0,0))->
   wz.heap[pb]?=some (.cells #[.int .i64 n,.int .i64 K,.int .i64 near,.int .i64 kept,.slice (some ⟨gb,0,none⟩) n n,.slice (some ⟨ob,0,none⟩) n n,.slice none 0 0,.slice none 0 0,.int .i64 0] 63 (0,0))->¬pb=gb->¬pb=ob->¬gb=ob->
   ∃F D,PR5 pb K near kept n wz ⟨List.replicate n 0,fun _=>false,[],[],0⟩ F D∧∀i,D i->i=pb∨i=gb∨i=ob):=by
  intro wz gb ob pb h1 h2 h3 d1 d2 d3
  let hc:Nat->Value:=fun i=>(#[.int .i64 n,.int .i64 K,.int .i64 near,.int .i64 kept,.slice (some ⟨gb,0,none⟩) n n,.slice (some ⟨ob,0,none⟩) n n,.slice none 0 0,.slice none 0 0,.int .i64 0]:Array Value).getD i (.slice none 0 0)
  have hrow:∀i k l,rows5 ⟨List.replicate n 0,fun _=>false,[],[],0⟩ i=some (k,l)->l=[]∧hc i=.slice none 0 0:=by
   intro i k l e;unfold rows5 at e
   split at e
   .rename_i q;subst q;simp at e;exact⟨e.2,rfl⟩
   .cases e
  refine⟨_,_,⟨gb,ob,hc,[],⟨⟨⟨_,_,h3,rfl,fun i hi=>?_⟩,⟨_,_,h1,by simp[size_madeCells],fun i hi=>?_⟩,⟨_,_,h2,by simp[size_madeCells],fun i hi=>?_⟩,fun i k l e=>?_,d1,d2,d3,by simp,hn⟩,rfl,rfl,rfl,rfl,rfl,rfl,rfl,rfl,World.ownsRow_nil _ _ _ _,fun x hx=>(by cases hx),fun b hb=>(by cases hb)⟩,fun _=>Iff.rfl,fun _=>Iff.rfl⟩,fun i q=>?_⟩
  .match i,hi with
   |0,_=>rfl
   |1,_=>rfl
   |2,_=>rfl
   |3,_=>rfl
   |4,_=>rfl
   |5,_=>rfl
   |6,_=>rfl
   |7,_=>rfl
   |8,_=>rfl
  .rw[made_at hi,show(#[Value.int .u32 0]:Array Value).size=1 from rfl,Nat.mod_one]
   simp[uF,hi]
  .rw[made_at hi,show(#[Value.bool false]:Array Value).size=1 from rfl,Nat.mod_one];rfl
  .obtain⟨rfl,e2⟩:=hrow i k l e
   rw[e2];exact⟨SlK.nil _ _,fun b hb=>(by cases hb)⟩
  .rcases q with(q|⟨j,k,l,e,hb⟩)|q|⟨x,hx,_⟩
   .exact q
   .rw[(hrow j k l e).2]at hb;cases hb
   .cases q
   .cases hx
 clear hi0 hz0 hz1 hz2 hi1 hy0 hy1 hy2;go_enter Try.func8,Try.ntmps8;go_wp2
 go_region
 .go_wp2
  go_returns
  obtain⟨F,D,P,hD⟩:=KEY.out (((w.alloc (.cells (madeCells #[.int .u32 0] n) 35)).alloc (.cells (madeCells #[.bool false] n) 4)).alloc (.cells #[.int .i64 n,.int .i64 K,.int .i64 near,.int .i64 kept,.slice (some ⟨w.heap.size,0,none⟩) n n,.slice (some ⟨w.heap.size+1,0,none⟩) n n,.slice none 0 0,.slice none 0 0,.int .i64 0] 63)) w.heap.size (w.heap.size+1) (w.heap.size+2)
   (heap_step _ _ _ _ (heap_step _ _ _ _ (heap_alloc_new _ _ _ rfl))) (heap_step _ _ _ _ (heap_alloc_new _ _ _ (by simp))) (heap_alloc_new _ _ _ (by simp)) (by omega) (by omega) (by omega)
  refine⟨w.heap.size+2,F,D,rfl,PR5_fr.fr P ((Fr.refl NoF _).drew) (fun _ _ q=>q),fun i hi=>?_,(((((Fr.refl NoF w).alloc _).alloc _).alloc _).drew)⟩;rcases hD i hi with rfl|rfl|rfl
  .omega
  .omega
  .omega
 .go_wp2
  go_returns
  obtain⟨F,D,P,hD⟩:=KEY.out (((w.alloc (.cells (madeCells #[.bool false] n) 4)).alloc (.cells (madeCells #[.int .u32 0] n) 35)).alloc (.cells #[.int .i64 n,.int .i64 K,.int .i64 near,.int .i64 kept,.slice (some ⟨w.heap.size+1,0,none⟩) n n,.slice (some ⟨w.heap.size,0,none⟩) n n,.slice none 0 0,.slice none 0 0,.int .i64 0] 63)) (w.heap.size+1) w.heap.size (w.heap.size+2)
   (heap_step _ _ _ _ (heap_alloc_new _ _ _ (by simp))) (heap_step _ _ _ _ (heap_step _ _ _ _ (heap_alloc_new _ _ _ rfl))) (heap_alloc_new _ _ _ (by simp)) (by omega) (by omega) (by omega)
  refine⟨w.heap.size+2,F,D,rfl,PR5_fr.fr P ((Fr.refl NoF _).drew) (fun _ _ q=>q),fun i hi=>?_,(((((Fr.refl NoF w).alloc _).alloc _).alloc _).drew)⟩;rcases hD i hi with rfl|rfl|rfl
  .omega
  .omega
  .omega
theorem gone5{K near kept n:Nat}{s:S5}{id a:Nat}(hv:s.vic K near n=some a):(polD K near kept n).gone s id=s.gone kept a:=by
 show(match s.vic K near n with|none=>s|some f=>s.gone kept f)=_
 rw[hv]
theorem vic_is{K near n:Nat}{s:S5}{a:Nat}(hv:s.vic K near n=some a):a<n∧okF s.page s.on a=true:=by
 unfold S5.vic at hv
 have key:∀all,s.bestF K near all n=some a->a<n∧okF s.page s.on a=true:=fun all q=>by
  obtain⟨q1,q2⟩:=best_is s K near all n a q;exact⟨q1,may_okF q2⟩
 cases e:s.bestF K near false n with
 |some x=>rw[e]at hv;injection hv with hv;subst hv;exact key false e
 |none=>rw[e]at hv;exact key true hv
theorem sys5{pb K near kept n:Nat}(hK:K<1000)(hr:near<1000)(hk:kept<1000):RefSysK (polD K near kept n) (PR5 pb K near kept n) pb n (co5 K kept n) where
 pf:=PR5_fr
 mono:=fun{s fr k} h=>⟨h.1,h.2.1,Nat.le_succ_of_le h.2.2.1,h.2.2.2⟩
 cN:=by
  rintro w s F D⟨gb,ob,hc,pv,h,hF,hD⟩;exact h.g.c 0 (by omega) h.c0
 miss:=by
  rintro w s F D fr k id⟨gb,ob,hc,pv,h,hF,hD⟩hco _ _ _;exact⟨hco,(s5_miss (some ⟨pb,0,none⟩) id).mono fun e w' ⟨he,hw⟩=>⟨he,keep5 h hF hD (by rw[hw];exact Fr.refl _ _)⟩⟩
 access:=by
  rintro w s F D fr k a id⟨gb,ob,hc,pv,h,hF,hD⟩⟨hi,hp,hT,hT2⟩ha hx h1 _ hk2
  have hf:s.pg a=id∨s.pg a=0∧∀f,¬s.pg f=id:=by
   have hat:∀x,fr[a]?=some x->s.pg a=x:=fun x q=>by unfold S5.pg;rw[hp,List.getD_eq_getElem?_getD,q];rfl
   rcases hx with q|⟨q,q2⟩
   .exact .inl (hat _ q)
   .refine .inr ⟨hat _ q,fun f e=>?_⟩
    unfold S5.pg at e;rw[hp,List.getD_eq_getElem?_getD]at e
    cases hf:fr[f]? with
    |none=>rw[hf]at e;simp at e;omega
    |some y=>rw[hf]at e;simp at e;exact q2 (e▸List.mem_of_getElem? hf)
  exact⟨⟨hi.access ha hf h1,by show s.page.set a id=fr.set a id;rw[hp],by show s.T+1<=k+1;omega,by show s.T+1<=1000;omega⟩,(s5_access h hi (by omega) hK hr hk ha).mono fun e w' ⟨he,hr⟩=>⟨he,hr.left hF hD⟩⟩
 set:=by
  rintro w s F D fr k a x v⟨gb,ob,hc,pv,h,hF,hD⟩⟨hi,hp,hT,hT2⟩ha hx h1
  have h0:¬s.pg a=0:=by
   have:s.pg a=x:=by unfold S5.pg;rw[hp,List.getD_eq_getElem?_getD,hx];rfl
   omega
  exact⟨⟨hi.setOn h0 v,hp,hT,hT2⟩,(s5_set h ha v).mono fun e w' ⟨he,hr⟩=>⟨he,hr.left hF hD⟩⟩
 victimNo:=by
  rintro w s F D fr k id⟨gb,ob,hc,pv,h,hF,hD⟩⟨hi,hp,hT,hT2⟩_ _ _ hv;exact(s5_victim_no h hi (by omega) hK hr hv id).mono fun e w' ⟨he,hf⟩=>⟨he,keep5 h hF hD hf⟩
 victimYes:=by
  rintro w s F D fr k id a⟨gb,ob,hc,pv,h,hF,hD⟩⟨hi,hp,hT,hT2⟩_ _ _ hv;obtain⟨ha,hok⟩:=vic_is hv;have h0:¬s.pg a=0:=by unfold okF at hok;unfold S5.pg;intro q;rw[q]at hok;simp at hok
  rw[gone5 hv];exact⟨ha,⟨hi.gone ha h0,by show s.page.set a 0=fr.set a 0;rw[hp],hT,hT2⟩,(s5_victim_yes h hi (by omega) hK hr hk hv id).mono fun e w' ⟨he,hr⟩=>⟨he,hr.left hF hD⟩⟩
 remove:=by
  rintro w s F D fr k a x⟨gb,ob,hc,pv,h,hF,hD⟩⟨hi,hp,hT,hT2⟩ha hx h1
  have h0:¬s.pg a=0:=by
   have:s.pg a=x:=by unfold S5.pg;rw[hp,List.getD_eq_getElem?_getD,hx];rfl
   omega
  exact⟨⟨hi.remove ha h0,by show s.page.set a 0=fr.set a 0;rw[hp],hT,hT2⟩,(s5_remove h hi (by omega) ha).mono fun e w' ⟨he,hr⟩=>⟨he,hr.left hF hD⟩⟩
 seen:=by
  rintro w s F D c⟨gb,ob,hc,pv,h,hF,hD⟩h0 hg
  have hsee:(polD K near kept n).see s c={c with size:=cntF s.page s.on n,ghosts:=s.old}:=by
   show({c with size:=cntF s.page s.on s.page.length,ghosts:=s.old}:Cl)=_
   rw[h.g.pn]
  rw[hsee];refine(seen_gen h.g (by omega) h.c0 h.c4 h.c5 (by omega) (gh:=s.old) (fun wr f=>?_) c h0 hg).mono fun e w' ⟨gv,he,hs,hb,hf⟩=>⟨gv,he,hs,fun b q=>?_,hf⟩
  .have hr:=h.fr0 f
   exact(s5_ghosts hr).mono fun e w' ⟨he,hw⟩=>⟨hc 7,he,by rw[<-hw];exact(hr.g.sl 7 .u32 s.old rfl).1,fun b q=>.inl ⟨.inr ⟨7,.u32,s.old,rfl,q⟩,fun r=>by have:=(hr.g.sl 7 .u32 s.old rfl).2 b q;rcases r with r|r|r;exact this.1 r;exact this.2.1 r;exact this.2.2 r⟩,by rw[<-hw];exact Fr.refl _ _⟩
  .rcases hb b q with⟨q1,q2⟩|q1
   .refine .inl ⟨(hD b).2 (.inl q1),fun r=>?_⟩
    rcases(hF b).1 r with r|r
    .exact q2 r
    .rcases q1 with q1|⟨j,k,l,e',q3⟩
     .exact q2 q1
     .have ej:j=7:=by
       apply Classical.byContradiction;intro hn;simp[rows5,hn]at e'
      subst ej;exact(h.v6 b r).2 q3
   .exact .inr q1
end
end Go.Proofs.Ytcccbdnojlmgaaa
