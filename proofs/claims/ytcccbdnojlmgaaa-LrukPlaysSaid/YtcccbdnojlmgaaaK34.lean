/- Part 34. -/
import Derived.Test.YtcccbdnojlmgaaaK28
import Derived.Test.YtcccbdnojlmgaaaK33
import Derived.BigQuiet
import Derived.Deep.RegionHeld3
namespace Go.Proofs.Ytcccbdnojlmgaaa
set_option linter.all false
set_option maxHeartbeats 16000000
set_option maxRecDepth 100000
section
open Go.RowKit
def cell5(x:Pa×Value):List Value:=[.int .u32 (x.1.p:Nat),.int .i64 (x.1.l:Nat),x.2]
def cells5(pv:List (Pa×Value)):List Value:=pv.flatMap cell5
theorem cells5_len(pv:List (Pa×Value)):(cells5 pv).length=pv.length*3:=by
 induction pv with
 |nil=>rfl
 |cons a pv ih=>simp only[cells5,List.flatMap_cons,List.length_append,List.length_cons]at*;rw[ih];simp[cell5];omega
theorem cells5_get:∀{pv:List (Pa×Value)} {i:Nat} {x:Pa×Value},pv[i]?=some x->(cells5 pv)[i*3]?=some (.int .u32 (x.1.p:Nat))∧(cells5 pv)[i*3+1]?=some (.int .i64 (x.1.l:Nat))∧(cells5 pv)[i*3+2]?=some x.2
 |a::pv,0,x,h=>by simp at h;subst h;exact⟨rfl,rfl,rfl⟩
 |a::pv,i+1,x,h=>by
  have:=cells5_get (pv:=pv) (i:=i) (x:=x) (by simpa using h);simp only[cells5,List.flatMap_cons,show(i+1)*3=i*3+1+1+1 from by omega];exact this
 |[],_,_,h=>by simp at h
theorem cells5_append(a b:List (Pa×Value)):cells5 (a++b)=cells5 a++cells5 b:=by simp[cells5]
theorem cells5_take:∀(pv:List (Pa×Value)) (i:Nat),(cells5 pv).take (i*3)=cells5 (pv.take i)
 |[],i=>by simp[cells5]
 |a::pv,0=>by simp[cells5]
 |a::pv,i+1=>by
  have:=cells5_take pv i;simp only[cells5,List.flatMap_cons,List.take_succ_cons,show(i+1)*3=i*3+1+1+1 from by omega]at*;simp only[cell5,List.cons_append,List.nil_append,List.take_succ_cons,this]
theorem cells5_drop:∀(pv:List (Pa×Value)) (i:Nat),(cells5 pv).drop (i*3)=cells5 (pv.drop i)
 |[],i=>by simp[cells5]
 |a::pv,0=>by simp[cells5]
 |a::pv,i+1=>by
  have:=cells5_drop pv i;simp only[cells5,List.flatMap_cons,List.drop_succ_cons,show(i+1)*3=i*3+1+1+1 from by omega]at*;simp only[cell5,List.cons_append,List.nil_append,List.drop_succ_cons,this]
theorem cells5_set:∀(pv:List (Pa×Value)) (i:Nat) (x:Pa×Value),i<pv.length->cells5 (pv.set i x)=(((cells5 pv).set (i*3) (.int .u32 (x.1.p:Nat))).set (i*3+1) (.int .i64 (x.1.l:Nat))).set (i*3+2) x.2
 |[],i,x,h=>by simp at h
 |a::pv,0,x,h=>by simp[cells5,cell5]
 |a::pv,i+1,x,h=>by
  have:=cells5_set pv i x (by simpa using h);simp only[cells5,List.flatMap_cons,List.set_cons_succ,show(i+1)*3=i*3+1+1+1 from by omega]at*;simp only[this,cell5,List.cons_append,List.nil_append,List.set_cons_succ,show i*3+1+1+1+1=i*3+1+1+1+1 from rfl]
theorem cells5_one{w:World}{pv:List (Pa×Value)}(h:∀x∈pv,SlK .i64 w x.2 x.1.ts):∀u∈cells5 pv,u.oneCell'=true:=by
 intro u hu;obtain⟨x,hx,hu⟩:=List.mem_flatMap.1 hu;simp only[cell5,List.mem_cons,List.not_mem_nil,or_false]at hu;rcases hu with rfl|rfl|rfl
 .rfl
 .rfl
 .obtain⟨a,c,e,_,_⟩:=(h x hx).shape
  rw[e];rfl
theorem own_set{w:World}{base e size g cap n:Nat}{xs:List Value}(h:w.ownsRow base e size (.slice (some ⟨g,0,none⟩) n cap) n xs){i:Nat}(hi:i<xs.length)(u:Value):(w.setCell ⟨g,i,none⟩ u).ownsRow base e size (.slice (some ⟨g,0,none⟩) n cap) n (xs.set i u):=by
 obtain⟨hl,h2⟩:=h;refine⟨by simpa using hl,.inr ?_⟩;rcases h2 with⟨h2,_⟩|⟨g',cap',cur,h2,hg,hh,h3,h4,h5,h6⟩
 .cases h2
 .simp only[Value.slice.injEq,Option.some.injEq,Addr.mk.injEq]at h2
  obtain⟨⟨rfl,_⟩,_,rfl⟩:=h2;refine⟨g,cap,cur.setIfInBounds i u,rfl,hg,?_,h3,h4,by simp[h5],?_⟩
  .simp[World.setCell,Array.getElem?_modify,hh]
  .rw[Array.toList_setIfInBounds,List.take_set,h6]
theorem own_at{w:World}{base e size n:Nat}{v:Value}{xs:List Value}(h:w.ownsRow base e size v n xs)(hn:0<n):∃g cap,v=.slice (some ⟨g,0,none⟩) n cap∧n<=cap∧cap<=maxLen∧g<w.heap.size∧(∀i,w.frozen? ⟨g,i,none⟩=false)∧(∀(i:Nat) (u:Value),xs[i]?=some u->w.cell? ⟨g,i,none⟩=some u):=by
 have hlt:=World.ownsRow.lt h;obtain⟨hl,h2⟩:=h;rcases h2 with⟨rfl,rfl⟩|⟨g,cap,cur,rfl,hg,hh,h3,h4,h5,h6⟩
 .omega
 .refine⟨g,cap,rfl,h3,h4,(hlt g rfl).2,fun i=>by simp[World.frozen?,hh],fun i u hi=>?_⟩
  have hil:=(List.getElem?_eq_some_iff.1 hi).1;rw[hl]at hil;rw[<-h6,List.getElem?_take,if_pos hil]at hi;simpa[World.cell?,hh]using hi
theorem own_shape{w:World}{base e size n:Nat}{v:Value}{xs:List Value}(h:w.ownsRow base e size v n xs):∃a cap,v=.slice a n cap∧n<=cap∧cap<=maxLen:=by
 obtain⟨hl,h2⟩:=h;rcases h2 with⟨rfl,rfl⟩|⟨g,cap,cur,rfl,hg,hh,h3,h4,h5,h6⟩
 .exact⟨none,0,rfl,Nat.le_refl _,by unfold maxLen;omega⟩
 .exact⟨_,cap,rfl,h3,h4⟩
theorem EIp:EI Try.prog 61 97 3 40:=EI.mk' (z:=.agg #[.int .u32 0,.int .i64 0,.slice none 0 0]) Try.underlying61 (by kernel_rfl) rfl (by decide)
def rows5(s:S5):RowsF:=fun i=>if i=7 then some (.u32,s.old)else none
theorem rows5_7(s s':S5):upd (rows5 s) 7 (some (.u32,s'.old))=rows5 s':=by
 funext i
 by_cases e:i=7
 .subst e;rw[upd_same];rfl
 .rw[upd_other _ _ e];simp[rows5,e]
structure M5(w:World)(pb gb ob n K near kept:Nat)(hc:Nat->Value)(s:S5)(pv:List (Pa×Value)):Prop where
 g:PG w pb 9 gb ob n hc (rows5 s) s.page s.on
 c0:hc 0=.int .i64 n
 c1:hc 1=.int .i64 K
 c2:hc 2=.int .i64 near
 c3:hc 3=.int .i64 kept
 c4:hc 4=.slice (some ⟨gb,0,none⟩) n n
 c5:hc 5=.slice (some ⟨ob,0,none⟩) n n
 c8:hc 8=.int .i64 s.T
 ps:s.ps=pv.map (·.1)
 own:w.ownsRow 0 97 3 (hc 6) pv.length (cells5 pv)
 ts:∀x∈pv,SlK .i64 w x.2 x.1.ts∧∀b,x.2.ownBlock=some b->¬FP pb gb ob b∧¬(hc 6).ownBlock=some b
 v6:∀b,(hc 6).ownBlock=some b->¬FP pb gb ob b∧¬(hc 7).ownBlock=some b
def F5(pb gb ob:Nat)(hc:Nat->Value):Nat->Prop:=fun i=>FP pb gb ob i∨(hc 6).ownBlock=some i
def D5(pb gb ob:Nat)(hc:Nat->Value)(s:S5)(pv:List (Pa×Value)):Nat->Prop:=fun i=>DP pb gb ob hc (rows5 s) i∨(hc 6).ownBlock=some i∨∃x∈pv,x.2.ownBlock=some i
theorem D5_FP{pb gb ob:Nat}{hc:Nat->Value}{s:S5}{pv:List (Pa×Value)}{i:Nat}(h:FP pb gb ob i):D5 pb gb ob hc s pv i:=.inl (.inl h)
section
variable{w w' w0:World}{pb gb ob n K near kept:Nat}{hc:Nat->Value}{s:S5}{pv:List (Pa×Value)}{F0 D0:Nat->Prop}
theorem M5.fr(h:M5 w pb gb ob n K near kept hc s pv){G:Nat->Prop}(f:Fr G w w')(hG:∀i,D5 pb gb ob hc s pv i->¬G i):M5 w' pb gb ob n K near kept hc s pv:=
 ⟨h.g.fr f (fun i q=>hG i (.inl q)),h.c0,h.c1,h.c2,h.c3,h.c4,h.c5,h.c8,h.ps,own_keep h.own f (fun b q=>hG b (.inr (.inl q))),fun x hx=>⟨(h.ts x hx).1.fr f (fun b q=>hG b (.inr (.inr ⟨x,hx,q⟩))),(h.ts x hx).2⟩,h.v6⟩
theorem M5.fr0(h:M5 w pb gb ob n K near kept hc s pv)(f:Fr NoF w w'):M5 w' pb gb ob n K near kept hc s pv:=h.fr f (fun _ _ q=>q)
theorem M5.lt(h:M5 w pb gb ob n K near kept hc s pv):∀i,D5 pb gb ob hc s pv i->i<w.heap.size:=by
 rintro i(q|q|⟨x,hx,q⟩)
 .exact h.g.lt i q
 .exact(World.ownsRow.lt h.own i q).2
 .exact(h.ts x hx).1.lt i q
theorem M5.sl(h:M5 w pb gb ob n K near kept hc s pv):SlC w 3 (hc 6) pv.length (cells5 pv):=SlC.ofOwn h.own (cells5_one (fun x hx=>(h.ts x hx).1))
theorem M5.pl(h:M5 w pb gb ob n K near kept hc s pv):s.ps.length=pv.length:=by rw[h.ps];simp
theorem M5.past(h:M5 w pb gb ob n K near kept hc s pv){i:Nat}{x:Pa×Value}(hx:pv[i]?=some x):∃b c,hc 6=.slice (some ⟨b,0,none⟩) pv.length c∧pv.length<=c∧c<=maxLen∧b<w.heap.size∧(∀i,w.frozen? ⟨b,i,none⟩=false)∧w.cell? ⟨b,i*3,none⟩=some (.int .u32 (x.1.p:Nat))∧w.cell? ⟨b,i*3+1,none⟩=some (.int .i64 (x.1.l:Nat))∧w.cell? ⟨b,i*3+2,none⟩=some x.2:=by
 have hi:=(List.getElem?_eq_some_iff.1 hx).1;obtain⟨g,c,e,h1,h2,h3,h4,h5⟩:=own_at h.own (by omega);obtain⟨g1,g2,g3⟩:=cells5_get hx;exact⟨g,c,e,h1,h2,h3,h4,h5 _ _ g1,h5 _ _ g2,h5 _ _ g3⟩
structure P5(w0:World)(F0 D0:Nat->Prop)(pb gb ob n K near kept:Nat)(w:World)(hc:Nat->Value)(s:S5)(pv:List (Pa×Value)):Prop where
 m:M5 w pb gb ob n K near kept hc s pv
 f:Fr F0 w0 w
 s0:∀i,F5 pb gb ob hc i->F0 i∨w0.heap.size<=i
 d:∀i,D5 pb gb ob hc s pv i->D0 i∨w0.heap.size<=i
theorem P5.start(h:M5 w pb gb ob n K near kept hc s pv):P5 w (F5 pb gb ob hc) (D5 pb gb ob hc s pv) pb gb ob n K near kept w hc s pv:=⟨h,Fr.refl _ _,fun i q=>.inl q,fun i q=>.inl q⟩
theorem P5.fr0(h:P5 w0 F0 D0 pb gb ob n K near kept w hc s pv)(f:Fr NoF w w'):P5 w0 F0 D0 pb gb ob n K near kept w' hc s pv:=⟨h.m.fr0 f,h.f.trans f (fun _ q=>q.elim),h.s0,h.d⟩
theorem P5.setOn(h:P5 w0 F0 D0 pb gb ob n K near kept w hc s pv)(a:Nat)(x:Bool):P5 w0 F0 D0 pb gb ob n K near kept (w.setCell ⟨ob,a,none⟩ (.bool x)) hc ⟨s.page,upd s.on a x,s.ps,s.old,s.T⟩ pv:=by
 have f:Fr (fun i=>i=ob) w (w.setCell ⟨ob,a,none⟩ (.bool x)):=(Fr.refl (fun i=>i=ob) w).setCell (p:=⟨ob,a,none⟩) (.inl rfl) _;have hm:=h.m;refine⟨⟨hm.g.setOn a x,hm.c0,hm.c1,hm.c2,hm.c3,hm.c4,hm.c5,hm.c8,hm.ps,own_keep hm.own f (fun b q e=>(hm.v6 b q).1 (.inr (.inr e))),fun y hy=>⟨(hm.ts y hy).1.fr f (fun b q e=>((hm.ts y hy).2 b q).1 (.inr (.inr e))),(hm.ts y hy).2⟩,hm.v6⟩,h.f.trans f (fun i e=>h.s0 i (.inl (.inr (.inr e)))),h.s0,h.d⟩
theorem P5.setPage(h:P5 w0 F0 D0 pb gb ob n K near kept w hc s pv){a:Nat}(ha:a<n)(id:Nat):P5 w0 F0 D0 pb gb ob n K near kept (w.setCell ⟨gb,a,none⟩ (.int .u32 id)) hc ⟨s.page.set a id,s.on,s.ps,s.old,s.T⟩ pv:=by
 have f:Fr (fun i=>i=gb) w (w.setCell ⟨gb,a,none⟩ (.int .u32 id)):=(Fr.refl (fun i=>i=gb) w).setCell (p:=⟨gb,a,none⟩) (.inl rfl) _;have hm:=h.m;refine⟨⟨hm.g.setPage ha id,hm.c0,hm.c1,hm.c2,hm.c3,hm.c4,hm.c5,hm.c8,hm.ps,own_keep hm.own f (fun b q e=>(hm.v6 b q).1 (.inr (.inl e))),fun y hy=>⟨(hm.ts y hy).1.fr f (fun b q e=>((hm.ts y hy).2 b q).1 (.inr (.inl e))),(hm.ts y hy).2⟩,hm.v6⟩,h.f.trans f (fun i e=>h.s0 i (.inl (.inr (.inl e)))),h.s0,h.d⟩
theorem P5.setT(h:P5 w0 F0 D0 pb gb ob n K near kept w hc s pv)(T:Nat):P5 w0 F0 D0 pb gb ob n K near kept (w.setCell ⟨pb,8,none⟩ (.int .i64 T)) (upd hc 8 (.int .i64 T)) ⟨s.page,s.on,s.ps,s.old,T⟩ pv:=by
 have f:Fr (fun i=>i=pb) w (w.setCell ⟨pb,8,none⟩ (.int .i64 T)):=(Fr.refl (fun i=>i=pb) w).setCell (p:=⟨pb,8,none⟩) (.inl rfl) _;have hm:=h.m;have e6:upd hc 8 (.int .i64 T) 6=hc 6:=upd_other _ _ (by omega);have e7:upd hc 8 (.int .i64 T) 7=hc 7:=upd_other _ _ (by omega);have ht:∀y∈pv,SlK .i64 (w.setCell ⟨pb,8,none⟩ (.int .i64 T)) y.2 y.1.ts∧∀b,y.2.ownBlock=some b->¬FP pb gb ob b∧¬(upd hc 8 (.int .i64 T) 6).ownBlock=some b:=fun y hy=>⟨(hm.ts y hy).1.fr f (fun b q e=>((hm.ts y hy).2 b q).1 (.inl e)),by rw[e6];exact(hm.ts y hy).2⟩
 refine⟨⟨hm.g.setNum 8 rfl _,by rw[upd_other _ _ (by omega)];exact hm.c0,by rw[upd_other _ _ (by omega)];exact hm.c1,by rw[upd_other _ _ (by omega)];exact hm.c2,by rw[upd_other _ _ (by omega)];exact hm.c3,by rw[upd_other _ _ (by omega)];exact hm.c4,by rw[upd_other _ _ (by omega)];exact hm.c5,upd_same _ _ _,hm.ps,?_,ht,?_⟩,h.f.trans f (fun i e=>h.s0 i (.inl (.inl e))),fun i q=>h.s0 i ?_,fun i q=>h.d i ?_⟩
 .rw[e6];exact own_keep hm.own f (fun b q e=>(hm.v6 b q).1 (.inl e))
 .rw[e6,e7];exact hm.v6
 .unfold F5 at*;rw[e6]at q;exact q
 .unfold D5 at*
  rw[e6]at q;refine q.imp (fun q=>q.imp id ?_) id;rintro⟨j,k,l,e,hb⟩;have ej:¬j=8:=by rintro rfl;cases e
  rw[upd_other _ _ ej]at hb;exact⟨j,k,l,e,hb⟩
theorem P5.setOld(h:P5 w0 F0 D0 pb gb ob n K near kept w hc s pv){v:Value}{l:List Nat}(hs:SlK .u32 w v l)(hv:∀b,v.ownBlock=some b->(w0.heap.size<=b∧¬D5 pb gb ob hc s pv b)∨(hc 7).ownBlock=some b):P5 w0 F0 D0 pb gb ob n K near kept (w.setCell ⟨pb,7,none⟩ v) (upd hc 7 v) ⟨s.page,s.on,s.ps,l,s.T⟩ pv:=by
 have f:Fr (fun i=>i=pb) w (w.setCell ⟨pb,7,none⟩ v):=(Fr.refl (fun i=>i=pb) w).setCell (p:=⟨pb,7,none⟩) (.inl rfl) _;have hm:=h.m;have e6:upd hc 7 v 6=hc 6:=upd_other _ _ (by omega);have hr:upd (rows5 s) 7 (some (.u32,l))=rows5 ⟨s.page,s.on,s.ps,l,s.T⟩:=rows5_7 s ⟨s.page,s.on,s.ps,l,s.T⟩;have hv7:∀b,(hc 7).ownBlock=some b->¬b=pb∧¬b=gb∧¬b=ob:=fun b q=>(hm.g.sl 7 .u32 s.old rfl).2 b q
 have hvF:∀b,v.ownBlock=some b->¬b=pb∧¬b=gb∧¬b=ob:=fun b q=>by
  rcases hv b q with⟨_,q2⟩|q2
  .exact⟨fun e=>q2 (D5_FP (.inl e)),fun e=>q2 (D5_FP (.inr (.inl e))),fun e=>q2 (D5_FP (.inr (.inr e)))⟩
  .exact hv7 b q2
 have hg:=hm.g.setRow 7 hs hvF;rw[hr]at hg;refine⟨⟨hg,by rw[upd_other _ _ (by omega)];exact hm.c0,by rw[upd_other _ _ (by omega)];exact hm.c1,by rw[upd_other _ _ (by omega)];exact hm.c2,by rw[upd_other _ _ (by omega)];exact hm.c3,by rw[upd_other _ _ (by omega)];exact hm.c4,by rw[upd_other _ _ (by omega)];exact hm.c5,by rw[upd_other _ _ (by omega)];exact hm.c8,hm.ps,?_,fun y hy=>⟨(hm.ts y hy).1.fr f (fun b q e=>((hm.ts y hy).2 b q).1 (.inl e)),by rw[e6];exact(hm.ts y hy).2⟩,?_⟩,h.f.trans f (fun i e=>h.s0 i (.inl (.inl e))),fun i q=>h.s0 i ?_,fun i q=>?_⟩
 .rw[e6];exact own_keep hm.own f (fun b q e=>(hm.v6 b q).1 (.inl e))
 .rw[e6,upd_same]
  intro b q;refine⟨(hm.v6 b q).1,fun q2=>?_⟩;rcases hv b q2 with⟨_,q3⟩|q3
  .exact q3 (.inr (.inl q))
  .exact(hm.v6 b q).2 q3
 .unfold F5 at*;rw[e6]at q;exact q
 .unfold D5 at q
  rw[e6]at q;rcases q with(q|⟨j,k,l',e,hb⟩)|q
  .exact h.d i (D5_FP q)
  .have ej:j=7:=by
    apply Classical.byContradiction;intro hn;simp[rows5,hn]at e
   subst ej;rw[upd_same]at hb;rcases hv i hb with⟨q2,_⟩|q2
   .exact .inr q2
   .exact h.d i (.inl (.inr ⟨7,.u32,s.old,rfl,q2⟩))
  .exact h.d i (.inr q)
theorem P5.setPs(h:P5 w0 F0 D0 pb gb ob n K near kept w hc s pv){w1:World}{v:Value}{pv':List (Pa×Value)}(f:Fr (fun b=>(hc 6).ownBlock=some b) w w1)(ho:w1.ownsRow 0 97 3 v pv'.length (cells5 pv'))(hv:∀b,v.ownBlock=some b->(hc 6).ownBlock=some b∨w.heap.size<=b)
  (ht:∀x∈pv',x∈pv∨(SlK .i64 w1 x.2 x.1.ts∧∀b,x.2.ownBlock=some b->(w0.heap.size<=b∧¬FP pb gb ob b∧¬v.ownBlock=some b)∨(∃y∈pv,y.2.ownBlock=some b)∧¬v.ownBlock=some b)):
  P5 w0 F0 D0 pb gb ob n K near kept (w1.setCell ⟨pb,6,none⟩ v) (upd hc 6 v) ⟨s.page,s.on,pv'.map (·.1),s.old,s.T⟩ pv':=by
 have hm:=h.m;have lt:=hm.lt;have fp:Fr (fun i=>i=pb) w1 (w1.setCell ⟨pb,6,none⟩ v):=(Fr.refl (fun i=>i=pb) w1).setCell (p:=⟨pb,6,none⟩) (.inl rfl) _
 have nF:∀i,DP pb gb ob hc (rows5 s) i->¬(hc 6).ownBlock=some i:=fun i q q2=>by
  rcases q with q|⟨j,k,l,e,hb⟩
  .exact(hm.v6 i q2).1 q
  .have ej:j=7:=by
    apply Classical.byContradiction;intro hn;simp[rows5,hn]at e
   subst ej;exact(hm.v6 i q2).2 hb
 have hg:=(hm.g.fr f nF).setNum 6 rfl v
 have hvF:∀b,v.ownBlock=some b->¬FP pb gb ob b∧¬(hc 7).ownBlock=some b:=fun b q=>by
  rcases hv b q with q2|q2
  .exact hm.v6 b q2
  .refine⟨fun q3=>?_,fun q3=>?_⟩
   .have:=lt b (D5_FP q3);omega
   .have:=lt b (.inl (.inr ⟨7,.u32,s.old,rfl,q3⟩));omega
 have hvP:∀x∈pv,∀b,x.2.ownBlock=some b->¬v.ownBlock=some b:=fun x hx b q q2=>by
  rcases hv b q2 with q3|q3
  .exact((hm.ts x hx).2 b q).2 q3
  .have:=lt b (.inr (.inr ⟨x,hx,q⟩));omega
 have e7:upd hc 6 v 7=hc 7:=upd_other _ _ (by omega);refine⟨⟨hg,by rw[upd_other _ _ (by omega)];exact hm.c0,by rw[upd_other _ _ (by omega)];exact hm.c1,by rw[upd_other _ _ (by omega)];exact hm.c2,by rw[upd_other _ _ (by omega)];exact hm.c3,by rw[upd_other _ _ (by omega)];exact hm.c4,by rw[upd_other _ _ (by omega)];exact hm.c5,by rw[upd_other _ _ (by omega)];exact hm.c8,rfl,?_,fun x hx=>?_,?_⟩,(h.f.trans f (fun i e=>h.s0 i (.inr e))).trans fp (fun i e=>h.s0 i (.inl (.inl e))),fun i q=>?_,fun i q=>?_⟩
 .rw[upd_same];exact own_keep ho fp (fun b q e=>(hvF b q).1 (.inl e))
 .rw[upd_same]
  rcases ht x hx with q|⟨q1,q2⟩
  .exact⟨((hm.ts x q).1.fr f (fun b q2 q3=>((hm.ts x q).2 b q2).2 q3)).fr fp (fun b q2 e=>((hm.ts x q).2 b q2).1 (.inl e)),fun b q2=>⟨((hm.ts x q).2 b q2).1,hvP x q b q2⟩⟩
  .refine⟨q1.fr fp (fun b q3 e=>?_),fun b q3=>?_⟩
   .rcases q2 b q3 with⟨_,q4,_⟩|⟨⟨y,hy,q4⟩,_⟩
    .exact q4 (.inl e)
    .exact((hm.ts y hy).2 b q4).1 (.inl e)
   .rcases q2 b q3 with⟨_,q4,q5⟩|⟨⟨y,hy,q4⟩,q5⟩
    .exact⟨q4,q5⟩
    .exact⟨((hm.ts y hy).2 b q4).1,q5⟩
 .rw[upd_same,e7];exact hvF
 .unfold F5 at q
  rw[upd_same]at q;rcases q with q|q
  .exact h.s0 i (.inl q)
  .rcases hv i q with q2|q2
   .exact h.s0 i (.inr q2)
   .right;have:=h.f.size;omega
 .unfold D5 at q
  rw[upd_same]at q;rcases q with(q|⟨j,k,l,e,hb⟩)|q|⟨x,hx,q⟩
  .exact h.d i (D5_FP q)
  .have ej:j=7:=by
    apply Classical.byContradiction;intro hn;simp[rows5,hn]at e
   subst ej;rw[e7]at hb;exact h.d i (.inl (.inr ⟨7,.u32,s.old,rfl,hb⟩))
  .rcases hv i q with q2|q2
   .exact h.d i (.inr (.inl q2))
   .right;have:=h.f.size;omega
  .rcases ht x hx with q2|⟨_,q2⟩
   .exact h.d i (.inr (.inr ⟨x,q2,q⟩))
   .rcases q2 i q with⟨q3,_⟩|⟨⟨y,hy,q3⟩,_⟩
    .exact .inr q3
    .exact h.d i (.inr (.inr ⟨y,hy,q3⟩))
def Res5(w:World)(pb gb ob n K near kept:Nat)(hc:Nat->Value)(s:S5)(pv:List (Pa×Value))(s':S5)(w':World):Prop:=
 ∃hc' pv',P5 w (F5 pb gb ob hc) (D5 pb gb ob hc s pv) pb gb ob n K near kept w' hc' s' pv'
theorem s5_miss(a:Option Addr)(p:Int):Calls Try.prog 20 #[.pointer a,.int .u32 p] w fun e w'=>e=.returned (.tuple #[])∧w=w':=by
 go_enter Try.func20,Try.ntmps20;go_wp2;go_returns;exact⟨rfl,rfl⟩
theorem s5_ghosts(h:M5 w pb gb ob n K near kept hc s pv):Calls Try.prog 41 #[.pointer (some ⟨pb,0,none⟩)] w fun e w'=>e=.returned (hc 7)∧w=w':=by
 obtain⟨a,c,e7,_,_,_,_⟩:=h.g.row (i:=7) (k:=.u32) (l:=s.old) rfl;have c7:=h.g.c 7 (by omega) e7;rw[e7];clear h e7;go_enter Try.func41,Try.ntmps41;go_wp2;go_returns;exact⟨rfl,rfl⟩
theorem s5_set(h:M5 w pb gb ob n K near kept hc s pv){a:Nat}(ha:a<n)(x:Bool):Calls Try.prog 24 #[.pointer (some ⟨pb,0,none⟩),.int .i64 a,.bool x] w fun e w'=>e=.returned (.tuple #[])∧Res5 w pb gb ob n K near kept hc s pv ⟨s.page,upd s.on a x,s.ps,s.old,s.T⟩ w':=by
 have c5:=h.g.c 5 (by omega) h.c5;have co:=h.g.co ha;have fo:=h.g.on.frozen a;have hn:=h.g.hn;have R:Hid (Res5 w pb gb ob n K near kept hc s pv ⟨s.page,upd s.on a x,s.ps,s.old,s.T⟩ (w.setCell ⟨ob,a,none⟩ (.bool x))):=⟨hc,pv,(P5.start h).setOn a x⟩;clear h;go_enter Try.func24,Try.ntmps24;go_wp2;go_returns;exact⟨rfl,R.out⟩
theorem s5_of(h:M5 w pb gb ob n K near kept hc s pv)(hl:pv.length<1000000)(x:Nat):Calls Try.prog 45 #[.pointer (some ⟨pb,0,none⟩),.int .u32 x] w fun e w'=>e=.returned (.int .i64 (fstI (idxP s.ps x)))∧w=w':=by
 obtain⟨a6,k6,e6,q1,q2⟩:=own_shape h.own;unfold maxLen at q2;have c6:=h.g.c 6 (by omega) e6;have lp:=h.g.hd.lt;have HM:=Lib.hid h;have HPS:=Lib.hid h.ps;have HPL:=Lib.hid h.pl;have E6:=Lib.hid e6;clear h e6;go_enter Try.func45,Try.ntmps45;go_wp2
 go_loop [5] (fun i=>∃k:Nat,k<=pv.length∧i=.int .i64 k∧∀q∈s.ps.take k,¬q.p=x) (fun i=>pv.length-(intOf i).toNat)
 case atStart=>exact⟨0,Nat.zero_le _,rfl,by simp⟩
 case round=>
  obtain⟨k,hk,rfl,hno⟩:=hrel;have HN:=Lib.hid hno;clear hno;by_cases hlt:k<pv.length
  .obtain⟨b,c,e,_,_,hb,_,d0,_,_⟩:=HM.out.past (List.getElem?_eq_getElem hlt)
   rw[E6.out]at e;simp only[Value.slice.injEq]at e;obtain⟨rfl,_,rfl⟩:=e;have hkl:k<s.ps.length:=by rw[HPL.out];exact hlt
   have HT:=Lib.hid (List.take_succ_eq_append_getElem hkl);have HE:Hid (s.ps[k]=pv[k].1):=by unfold Hid;simp[HPS.out]
   by_cases hy:pv[k].1.p=x
   .have he:((pv[k].1.p:Int)==(x:Int))=true:=by simp[hy]
    have HI:Hid (idxP s.ps x=some k):=idxP_is hkl (by rw[HE.out];exact hy) HN.out;generalize pv[k].1.p=y at*;clear hy HT HE;go_wp2;go_returns;exact⟨by rw[HI.out];rfl,rfl⟩
   .have he:((pv[k].1.p:Int)==(x:Int))=false:=by simp;omega
    have HY:Hid (¬s.ps[k].p=x):=by unfold Hid;rw[HE.out];exact hy
    generalize pv[k].1.p=y at*;clear hy HE;go_wp2
    go_round
    case rel=>exact⟨k+1,by omega,by go_num,fun q hq=>by
     rw[HT.out]at hq;rcases List.mem_append.1 hq with h|h
     .exact HN.out q h
     .rw[List.mem_singleton.1 h];exact HY.out⟩
    case measure=>simp[intOf];omega
  .obtain rfl:k=pv.length:=by omega
   have HI:Hid (idxP s.ps x=none):=idxP_no (fun q hq=>HN.out q (by rw[<-HPL.out,List.take_length];exact hq));go_wp2;go_returns;exact⟨by rw[HI.out];rfl,rfl⟩
end
end
end Go.Proofs.Ytcccbdnojlmgaaa
