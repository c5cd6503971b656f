/- Part 23. -/
import Derived.Test.YtcccbdnojlmgaaaK02
namespace Go.Proofs.Ytcccbdnojlmgaaa
set_option linter.all false
set_option maxHeartbeats 16000000
set_option maxRecDepth 100000
section
open Go.RowKit
structure Cl where
 kind:Nat
 frame:Nat
 page:Nat
 on:Bool
 want:Int
 size:Nat
 ghosts:List Nat
structure Pol(σ:Type) where
 miss:σ->Nat->σ
 access:σ->Nat->Nat->σ
 set:σ->Nat->Bool->σ
 victim:σ->Nat->Option Nat
 gone:σ->Nat->σ
 remove:σ->Nat->σ
 size:σ->Nat
 ghosts:σ->List Nat
def fromL(fr:List Nat)(x k:Nat):Int:=match(fr.drop k).findIdx? (fun y=>decide (y=x))with
 |none=> -1
 |some j=>(k+j:Nat)
def atL(fr:List Nat)(x:Nat):Option Nat:=fr.findIdx? (fun y=>decide (y=x))
theorem fromL_zero(fr:List Nat)(x:Nat):fromL fr x 0=match atL fr x with|none=> -1|some j=>(j:Int):=by
 unfold fromL atL;rw[List.drop_zero]
 cases fr.findIdx? (fun y=>decide (y=x))<;>simp
theorem fromL_end(fr:List Nat)(x:Nat):fromL fr x fr.length= -1:=by simp[fromL]
theorem fromL_step(fr:List Nat)(x k:Nat)(hk:k<fr.length):fromL fr x k=if fr[k]=x then(k:Int)else fromL fr x (k+1):=by
 unfold fromL;rw[List.drop_eq_getElem_cons hk,List.findIdx?_cons];by_cases h:fr[k]=x
 .simp[h]
 .simp only[decide_eq_true_eq,h,if_false]
  cases(fr.drop (k+1)).findIdx? (fun y=>decide (y=x))with
  |none=>rfl
  |some j=>simp;omega
theorem atL_some{fr:List Nat}{x a:Nat}(h:atL fr x=some a):a<fr.length∧fr[a]?=some x:=by
 obtain⟨h1,h2,_⟩:=List.findIdx?_eq_some_iff_getElem.1 h;exact⟨h1,by rw[List.getElem?_eq_getElem h1];simpa using h2⟩
theorem atL_none{fr:List Nat}{x:Nat}(h:atL fr x=none):¬x∈fr:=by
 intro hm;have:=List.findIdx?_eq_none_iff.1 h x hm;simp at this
section
variable{σ:Type}(P:Pol σ)
def Pol.see(s:σ)(c:Cl):Cl:={c with size:=P.size s,ghosts:=P.ghosts s}
def clMiss(id:Nat):Cl:=⟨0,0,id,false,0,0,[]⟩
def clAcc(a id:Nat):Cl:=⟨1,a,id,false,0,0,[]⟩
def clSet(a:Nat)(v:Bool):Cl:=⟨2,a,0,v,0,0,[]⟩
def clVic(id:Nat)(w:Int):Cl:=⟨3,0,id,false,w,0,[]⟩
def clRem(a:Nat):Cl:=⟨4,a,0,false,0,0,[]⟩
def Pol.come(s:σ)(fr:List Nat)(a id:Nat)(pre:List Cl):σ×List Nat×List Cl:=
 let s1:=P.access s a id
 let s2:=P.set s1 a true
 (s2,fr.set a id,pre++[P.see s1 (clAcc a id),P.see s2 (clSet a true)])
def Pol.step(s:σ)(fr:List Nat)(k id:Nat):σ×List Nat×List Cl:=
 if k=0 then
  match atL fr id with
  |some a=>(P.access s a id,fr,[P.see (P.access s a id) (clAcc a id)])
  |none=>
   let s1:=P.miss s id
   match atL fr 0 with
   |some a=>P.come s1 fr a id [P.see s1 (clMiss id)]
   |none=>
    match P.victim s1 id with
    |none=>(s1,fr,[P.see s1 (clMiss id),P.see s1 (clVic id (-1))])
    |some a=>P.come (P.gone s1 id) fr a id [P.see s1 (clMiss id),P.see (P.gone s1 id) (clVic id a)]
 else
  match atL fr id with
  |none=>(s,fr,[])
  |some a=>
   if k=3 then(P.remove s a,fr.set a 0,[P.see (P.remove s a) (clRem a)])
   else(P.set s a (!decide (k=1)),fr,[P.see (P.set s a (!decide (k=1))) (clSet a (!decide (k=1)))])
def Pol.run:σ->List Nat->List (Nat×Nat)->σ×List Nat×List Cl
 |s,fr,[]=>(s,fr,[])
 |s,fr,(k,id)::r=>
  let x:=P.step s fr k id
  let y:=Pol.run x.1 x.2.1 r
  (y.1,y.2.1,x.2.2++y.2.2)
theorem Pol.run_snoc(s:σ)(fr:List Nat)(l:List (Nat×Nat))(o:Nat×Nat):
  P.run s fr (l++[o])=((P.step (P.run s fr l).1 (P.run s fr l).2.1 o.1 o.2).1,(P.step (P.run s fr l).1 (P.run s fr l).2.1 o.1 o.2).2.1,(P.run s fr l).2.2++(P.step (P.run s fr l).1 (P.run s fr l).2.1 o.1 o.2).2.2):=by
 induction l generalizing s fr with
 |nil=>simp[Pol.run]
 |cons a l ih=>
  obtain⟨k,id⟩:=a;simp only[List.cons_append,Pol.run,ih,List.append_assoc]
theorem Pol.step_len(s:σ)(fr:List Nat)(k id:Nat):(P.step s fr k id).2.2.length<=4:=by
 unfold Pol.step Pol.come
 split
 .split
  .simp
  .simp only;split
   .simp
   .split<;>simp
 .split
  .simp
  .split<;>simp
theorem Pol.run_len(s:σ)(fr:List Nat)(l:List (Nat×Nat)):(P.run s fr l).2.2.length<=4*l.length:=by
 induction l generalizing s fr with
 |nil=>simp[Pol.run]
 |cons a l ih=>
  obtain⟨k,id⟩:=a;have:=P.step_len s fr k id;have:=ih (P.step s fr k id).1 (P.step s fr k id).2.1;simp only[Pol.run,List.length_append,List.length_cons];omega
end
def clCells(c:Cl)(g:Value):List Value:=[.int .i64 c.kind,.int .i64 c.frame,.int .u32 c.page,.bool c.on,.int .i64 c.want,.int .i64 c.size,g]
def flatC:List Cl->List Value->List Value
 |c::cs,g::gs=>clCells c g++flatC cs gs
 |_,_=>[]
theorem flatC_snoc:∀{cs:List Cl} {gs:List Value} (c:Cl) (g:Value),gs.length=cs.length->flatC (cs++[c]) (gs++[g])=flatC cs gs++clCells c g
 |[],[],c,g,_=>by simp[flatC]
 |a::cs,b::gs,c,g,h=>by
  have:=flatC_snoc (cs:=cs) (gs:=gs) c g (by simpa using h);simp only[List.cons_append,flatC,this,List.append_assoc]
theorem flatC_get:∀{cs:List Cl} {gs:List Value} {i j:Nat} {c:Cl} {g:Value},cs[i]?=some c->gs[i]?=some g->j<7->(flatC cs gs)[i*7+j]?=(clCells c g)[j]?
 |a::cs,b::gs,0,j,c,g,h1,h2,hj=>by
  simp at h1 h2;subst h1 h2;simp only[flatC,Nat.zero_mul,Nat.zero_add];rw[List.getElem?_append_left (by simp[clCells];omega)]
 |a::cs,b::gs,i+1,j,c,g,h1,h2,hj=>by
  simp at h1 h2;have:=flatC_get (i:=i) (j:=j) h1 h2 hj;simp only[flatC];rw[List.getElem?_append_right (by simp[clCells];omega)];rw[<-this]
  congr 1
  simp[clCells];omega
 |[],_,_,_,_,_,h,_,_=>by simp at h
 |_::_,[],_,_,_,_,_,h,_=>by simp at h
theorem flatC_one{cs:List Cl}{gs:List Value}(hg:∀g∈gs,g.oneCell'=true):∀u∈flatC cs gs,u.oneCell'=true:=by
 induction cs generalizing gs with
 |nil=>intro u hu;simp[flatC]at hu
 |cons c cs ih=>
  cases gs with
  |nil=>intro u hu;simp[flatC]at hu
  |cons g gs=>
   intro u hu;simp only[flatC,List.mem_append]at hu;rcases hu with hu|hu
   .simp only[clCells,List.mem_cons,List.not_mem_nil,or_false]at hu
    rcases hu with rfl|rfl|rfl|rfl|rfl|rfl|rfl
    all_goals first|rfl|exact hg _ (List.mem_cons_self ..)
   .exact ih (fun g' h'=>hg g' (List.mem_cons_of_mem _ h')) u hu
theorem set_same'{fr:List Nat}{a x:Nat}(h:fr[a]?=some x):fr.set a x=fr:=by
 apply List.ext_getElem?;intro i;rw[List.getElem?_set];by_cases e:a=i
 .subst e;rw[if_pos rfl,if_pos (List.getElem?_eq_some_iff.1 h).1,h]
 .rw[if_neg e]
theorem EIc:EI Try.prog 30 38 7 64:=EI.mk' (z:=.agg #[.int .i64 0,.int .i64 0,.int .u32 0,.bool false,.int .i64 0,.int .i64 0,.slice none 0 0]) Try.underlying30 (by kernel_rfl) rfl (by decide)
def uF(fr:List Nat)(i:Nat):Value:=.int .u32 (fr.getD i 0:Nat)
theorem uF_set{fr:List Nat}{a id:Nat}(ha:a<fr.length):upd (uF fr) a (.int .u32 id)=uF (fr.set a id):=by
 funext j
 by_cases e:j=a
 .subst e;rw[upd_same];simp[uF,ha]
 .rw[upd_other _ _ e];simp[uF,show¬a=j from fun q=>e q.symm]
abbrev PRel(σ:Type):=World->σ->(Nat->Prop)->(Nat->Prop)->Prop
structure PFr{σ:Type}(PR:PRel σ):Prop where
 fr:∀{w w':World} {s:σ} {F D G:Nat->Prop},PR w s F D->Fr G w w'->(∀i,D i->¬G i)->PR w' s F D
 sub:∀{w:World} {s:σ} {F D:Nat->Prop},PR w s F D->∀i,F i->D i
 lt:∀{w:World} {s:σ} {F D:Nat->Prop},PR w s F D->∀i,D i->i<w.heap.size
def Left{σ:Type}(PR:PRel σ)(w:World)(s':σ)(F D:Nat->Prop)(w':World):Prop:=
 ∃F' D',PR w' s' F' D'∧Fr F w w'∧(∀i,F' i->F i∨w.heap.size<=i)∧(∀i,D' i->D i∨w.heap.size<=i)
structure StR{σ:Type}(PR:PRel σ)(w0:World)(F0:Nat->Prop)(n fb hb:Nat)(w:World)(s:σ)(fr:List Nat)(cs:List Cl)(out:Value)(F D:Nat->Prop)(gs:List Value)(hd:Nat->Bool):Prop where
 pr:PR w s F D
 bfb:Blk w fb n (uF fr)
 bhb:Blk w hb n (bF hd)
 frn:fr.length=n
 own:w.ownsRow w0.heap.size 38 7 out cs.length (flatC cs gs)
 gl:gs.length=cs.length
 gh:∀(i:Nat) (c:Cl) (g:Value),cs[i]?=some c->gs[i]?=some g->SlK .u32 w g c.ghosts∧∀b,g.ownBlock=some b->(¬F b∧¬b=fb∧¬b=hb∧¬out.ownBlock=some b)∧(F0 b∨w0.heap.size<=b)
 df:¬D fb
 dh:¬D hb
 fh:¬fb=hb
 oo:∀b,out.ownBlock=some b->¬D b∧¬b=fb∧¬b=hb
 f0:∀i,D i->F0 i∨w0.heap.size<=i
 nf:w0.heap.size<=fb
 nh:w0.heap.size<=hb
 ff:Fr F0 w0 w
def St{σ:Type}(PR:PRel σ)(w0:World)(F0:Nat->Prop)(n fb hb:Nat)(w:World)(s:σ)(fr:List Nat)(hd:Nat->Bool)(cs:List Cl)(out:Value):Prop:=
 ∃F D gs,StR PR w0 F0 n fb hb w s fr cs out F D gs hd
def StG{σ:Type}(PR:PRel σ)(w0:World)(F0:Nat->Prop)(n fb hb:Nat)(w:World)(s:σ)(fr:List Nat)(hd:Nat->Bool)(cs:List Cl)(out:Value)(gv:Value)(gh:List Nat):Prop:=
 ∃F D gs,StR PR w0 F0 n fb hb w s fr cs out F D gs hd∧SlK .u32 w gv gh∧∀b,gv.ownBlock=some b->(¬F b∧¬b=fb∧¬b=hb∧¬out.ownBlock=some b)∧(F0 b∨w0.heap.size<=b)
section
variable{σ:Type}{PR:PRel σ}(hP:PFr PR){w0 w w':World}{F0:Nat->Prop}{n fb hb:Nat}{s s':σ}{fr:List Nat}{cs:List Cl}{out:Value}{F D:Nat->Prop}{gs:List Value}{hd:Nat->Bool}
include hP
theorem StR.keep(h:StR PR w0 F0 n fb hb w s fr cs out F D gs hd)(f:Fr NoF w w'):StR PR w0 F0 n fb hb w' s fr cs out F D gs hd:=
 ⟨hP.fr h.pr f (fun _ _ q=>q),h.bfb.fr f id,h.bhb.fr f id,h.frn,own_keep h.own f (fun _ _ q=>q),h.gl,fun i c g h1 h2=>⟨(h.gh i c g h1 h2).1.keep f,(h.gh i c g h1 h2).2⟩,h.df,h.dh,h.fh,h.oo,h.f0,h.nf,h.nh,h.ff.trans f (fun _ q=>q.elim)⟩
theorem St.keep(h:St PR w0 F0 n fb hb w s fr hd cs out)(f:Fr NoF w w'):St PR w0 F0 n fb hb w' s fr hd cs out:=by
 obtain⟨F,D,gs,h⟩:=h;exact⟨F,D,gs,h.keep hP f⟩
theorem StR.op(h:StR PR w0 F0 n fb hb w s fr cs out F D gs hd)(hl:Left PR w s' F D w'):St PR w0 F0 n fb hb w' s' fr hd cs out:=by
 obtain⟨F',D',hp,hf,hF,hD⟩:=hl;have hsub:=hP.sub h.pr;have nF:∀i,¬D i->¬F i:=fun i hd hf=>hd (hsub i hf)
 have old:∀b,b<w.heap.size->¬D b->¬D' b:=fun b hb hd q=>(hD b q).elim hd (fun e=>by omega)
 have oldF:∀b,b<w.heap.size->¬F b->¬F' b:=fun b hb hd q=>(hF b q).elim hd (fun e=>by omega)
 have hlo:=(World.ownsRow.lt h.own);refine⟨F',D',gs,hp,h.bfb.fr hf (nF _ h.df),h.bhb.fr hf (nF _ h.dh),h.frn,own_keep h.own hf (fun b hb=>nF _ (h.oo b hb).1),h.gl,fun i c g h1 h2=>?_,old _ h.bfb.lt h.df,old _ h.bhb.lt h.dh,h.fh,fun b hb=>⟨old b (hlo b hb).2 (h.oo b hb).1,(h.oo b hb).2⟩,?_,h.nf,h.nh,h.ff.trans hf (fun i hi=>h.f0 i (hsub i hi))⟩
 .obtain⟨g1,g2⟩:=h.gh i c g h1 h2
  exact⟨g1.fr hf (fun b hb=>(g2 b hb).1.1),fun b hb=>⟨⟨oldF b (g1.lt b hb) (g2 b hb).1.1,(g2 b hb).1.2⟩,(g2 b hb).2⟩⟩
 .intro i hi
  rcases hD i hi with q|q
  .exact h.f0 i q
  .right;have:=h.ff.size;omega
theorem St.calls{Pg:Program}{f:FuncId}{args:Array Value}{E:Ending->Prop}(h:St PR w0 F0 n fb hb w s fr hd cs out)
  (hc:∀F D,PR w s F D->Calls Pg f args w fun e w'=>E e∧Left PR w s' F D w'):Calls Pg f args w fun e w'=>E e∧St PR w0 F0 n fb hb w' s' fr hd cs out:=by
 obtain⟨F,D,gs,h⟩:=h;exact(hc F D h.pr).mono fun e w' ⟨he,hl⟩=>⟨he,h.op hP hl⟩
theorem St.seen{Pg:Program}{f:FuncId}{args:Array Value}{E:Value->Ending->Prop}{gh:List Nat}(h:St PR w0 F0 n fb hb w s fr hd cs out)
  (hc:∀F D,PR w s F D->Calls Pg f args w fun e w'=>∃gv,E gv e∧SlK .u32 w' gv gh∧(∀b,gv.ownBlock=some b->(D b∧¬F b)∨w.heap.size<=b)∧Fr NoF w w'):
  Calls Pg f args w fun e w'=>∃gv,E gv e∧StG PR w0 F0 n fb hb w' s fr hd cs out gv gh:=by
 obtain⟨F,D,gs,h⟩:=h;refine(hc F D h.pr).mono fun e w' ⟨gv,he,hs,hb',hf⟩=>⟨gv,he,F,D,gs,h.keep hP hf,hs,fun b hb=>?_⟩
 rcases hb' b hb with⟨d1,d2⟩|hn
 .exact⟨⟨d2,fun e=>h.df (e▸d1),fun e=>h.dh (e▸d1),fun e=>(h.oo b e).1 d1⟩,h.f0 b d1⟩
 .have l1:=h.bfb.lt
  have l2:=h.bhb.lt;have l3:=(World.ownsRow.lt h.own);exact⟨⟨fun q=>by have:=hP.lt h.pr b (hP.sub h.pr b q);omega,by omega,by omega,fun e=>by have:=(l3 b e).2;omega⟩,.inr (by have:=h.ff.size;omega)⟩
theorem StG.keep{gv:Value}{gh:List Nat}(h:StG PR w0 F0 n fb hb w s fr hd cs out gv gh)(f:Fr NoF w w'):StG PR w0 F0 n fb hb w' s fr hd cs out gv gh:=by
 obtain⟨F,D,gs,h,hs,hb'⟩:=h;exact⟨F,D,gs,h.keep hP f,hs.keep f,hb'⟩
theorem StG.append{gv:Value}{c:Cl}(h:StG PR w0 F0 n fb hb w s fr hd cs out gv c.ghosts)(hcl:cs.length<1000000){ops:Array Oper}{rest:List Oper}{o:Oper}{a:Act}{Q:Exit->Act->World->Prop}(hgd:o.guard=none)(so xo:Operand)
  (ho:o.op=.call {callee:=.builtin .append,args:=#[so,xo],argTypes:=#[30,30]})(hs:a.eval so=out){g:Nat}(hg:g=w.heap.size)(hx:a.eval xo=.slice (some ⟨g,0,none⟩) 1 1){cells:Array Value}(hcells:cells.toList=clCells c gv){ty:TypeId}
  (hK:∀v' w',St PR w0 F0 n fb hb w' s fr hd (cs++[c]) v'->wpList Try.prog ops Q rest (a.put o.dst v') w'):
  wpList Try.prog ops Q (o::rest) a (w.alloc (.cells cells ty)):=by
 subst hg;obtain⟨F,D,gs,h,hgv,hgb⟩:=h;have hsz:=h.ff.size;have hcs:cells.size=7:=by rw[<-Array.length_toList,hcells];rfl
 have hone:gv.oneCell'=true:=by obtain⟨a',c',rfl,_,_⟩:=hgv.shape;rfl
 have hsl:SlC (w.alloc (.cells cells ty)) 7 (.slice (some ⟨w.heap.size,0,none⟩) 1 1) 1 (clCells c gv):=by
  rw[<-hcells];refine SlC.ofOwn (own_new (w0:=w) (Nat.le_refl _) cells ty 7 1 _ rfl (by omega) (by unfold maxLen;omega)) ?_;rw[hcells];intro u hu;simp only[clCells,List.mem_cons,List.not_mem_nil,or_false]at hu;rcases hu with rfl|rfl|rfl|rfl|rfl|rfl|rfl<;>first|rfl|exact hone
 have k0:Fr NoF w (w.alloc (.cells cells ty)):=(Fr.refl _ _).alloc _;have h1:=h.keep hP k0;refine appLB (base:=w0.heap.size) EIc hgd so xo ho hs hx (by simp;omega) h1.own hsl (by unfold maxLen;omega) (by omega) ?_;intro v' w' hown hf hob;refine hK v' w' ⟨F,D,gs++[gv],?_⟩;have hD:∀i,D i->¬out.ownBlock=some i:=fun i hi e=>(h.oo i e).1 hi
 refine⟨hP.fr h1.pr hf hD,h1.bfb.fr hf (fun e=>(h.oo _ e).2.1 rfl),h1.bhb.fr hf (fun e=>(h.oo _ e).2.2 rfl),h.frn,?_,by simp[h.gl],?_,h.df,h.dh,h.fh,?_,h.f0,h.nf,h.nh,h1.ff.trans hf (fun i hi=>.inr (ownBlock_own h.own i hi))⟩
 .rw[flatC_snoc c gv h.gl,List.length_append];exact hown
 .intro i c' g' e1 e2
  by_cases hi:i<cs.length
  .rw[List.getElem?_append_left hi]at e1
   rw[List.getElem?_append_left (by rw[h.gl];exact hi)]at e2;obtain⟨g1,g2⟩:=h1.gh i c' g' e1 e2;have g0:=(h.gh i c' g' e1 e2).1;refine⟨g1.fr hf (fun b hb e=>(g2 b hb).1.2.2.2 e),fun b hb=>⟨⟨(g2 b hb).1.1,(g2 b hb).1.2.1,(g2 b hb).1.2.2.1,fun e=>?_⟩,(g2 b hb).2⟩⟩;rcases hob b e with q|q
   .exact(g2 b hb).1.2.2.2 q
   .have:=g0.lt b hb;simp at q;omega
  .rw[List.getElem?_append_right (by omega)]at e1
   rw[List.getElem?_append_right (by rw[h.gl];omega),h.gl]at e2
   obtain⟨rfl,rfl⟩:c=c'∧gv=g':=by
    cases hk:i-cs.length with
    |zero=>rw[hk]at e1 e2;simpa using And.intro e1 e2
    |succ k=>rw[hk]at e1;simp at e1
   refine⟨(hgv.keep k0).fr hf (fun b hb e=>(hgb b hb).1.2.2.2 e),fun b hb=>⟨⟨(hgb b hb).1.1,(hgb b hb).1.2.1,(hgb b hb).1.2.2.1,fun e=>?_⟩,(hgb b hb).2⟩⟩;rcases hob b e with q|q
   .exact(hgb b hb).1.2.2.2 q
   .have:=hgv.lt b hb;simp at q;omega
 .intro b hb
  rcases hob b hb with q|q
  .exact h.oo b q
  .have h2:=hP.lt h.pr
   have h3:=h.bfb.lt;have h4:=h.bhb.lt;simp at q;exact⟨fun e=>by have:=h2 b e;omega,by omega,by omega⟩
theorem St.setF(h:St PR w0 F0 n fb hb w s fr hd cs out){a:Nat}(ha:a<n)(id:Nat):St PR w0 F0 n fb hb (w.setCell ⟨fb,a,none⟩ (.int .u32 id)) s (fr.set a id) hd cs out:=by
 obtain⟨F,D,gs,h⟩:=h;have f:Fr (fun i=>i=fb) w (w.setCell ⟨fb,a,none⟩ (.int .u32 id)):=(Fr.refl (fun i=>i=fb) w).setCell (p:=⟨fb,a,none⟩) (.inl rfl) _;refine⟨F,D,gs,hP.fr h.pr f (fun i hi e=>h.df (e▸hi)),?_,h.bhb.fr f (fun e=>h.fh e.symm),by simp[h.frn],own_keep h.own f (fun b hb e=>(h.oo b hb).2.1 e),h.gl,fun i c g h1 h2=>⟨(h.gh i c g h1 h2).1.fr f (fun b hb e=>((h.gh i c g h1 h2).2 b hb).1.2.1 e),(h.gh i c g h1 h2).2⟩,h.df,h.dh,h.fh,h.oo,h.f0,h.nf,h.nh,h.ff.trans f (fun i e=>.inr (by subst e;exact h.nf))⟩;rw[<-uF_set (by rw[h.frn];exact ha)];exact h.bfb.set _ _
theorem St.setH(h:St PR w0 F0 n fb hb w s fr hd cs out)(a:Nat)(v:Bool):St PR w0 F0 n fb hb (w.setCell ⟨hb,a,none⟩ (.bool v)) s fr (upd hd a v) cs out:=by
 obtain⟨F,D,gs,h⟩:=h;have f:Fr (fun i=>i=hb) w (w.setCell ⟨hb,a,none⟩ (.bool v)):=(Fr.refl (fun i=>i=hb) w).setCell (p:=⟨hb,a,none⟩) (.inl rfl) _;refine⟨F,D,gs,hP.fr h.pr f (fun i hi e=>h.dh (e▸hi)),h.bfb.fr f h.fh,?_,h.frn,own_keep h.own f (fun b hb e=>(h.oo b hb).2.2 e),h.gl,fun i c g h1 h2=>⟨(h.gh i c g h1 h2).1.fr f (fun b hb e=>((h.gh i c g h1 h2).2 b hb).1.2.2.1 e),(h.gh i c g h1 h2).2⟩,h.df,h.dh,h.fh,h.oo,h.f0,h.nf,h.nh,h.ff.trans f (fun i e=>.inr (by subst e;exact h.nh))⟩;rw[<-bF_set];exact h.bhb.set _ _
omit hP
theorem St.cells(h:St PR w0 F0 n fb hb w s fr hd cs out):(∀a,a<n->w.cell? ⟨fb,a,none⟩=some (.int .u32 (fr.getD a 0:Nat)))∧(∀a,w.frozen? ⟨fb,a,none⟩=false)∧(∀a,w.frozen? ⟨hb,a,none⟩=false)∧fb<w.heap.size∧hb<w.heap.size∧(∀a,a<n->w.cell? ⟨hb,a,none⟩=some (.bool (hd a)))∧fr.length=n∧(¬fb=hb):=by
 obtain⟨F,D,gs,h⟩:=h;exact⟨fun a ha=>h.bfb.cell ha,h.bfb.frozen,h.bhb.frozen,h.bfb.lt,h.bhb.lt,fun a ha=>h.bhb.cell ha,h.frn,h.fh⟩
theorem St.size(h:St PR w0 F0 n fb hb w s fr hd cs out):w0.heap.size<=w.heap.size:=by
 obtain⟨F,D,gs,h⟩:=h;exact h.ff.size
end
end
end Go.Proofs.Ytcccbdnojlmgaaa
