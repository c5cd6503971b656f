/- Part 1. -/
import Derived.WalkKit
import Derived.Deep.QuietTactic
import Derived.Deep.DeepMust
import Derived.Maps.AppendAt
import Derived.Maps.OwnSet
namespace Go.Proofs.Ytcccbdnojlmgaaa
set_option linter.all false
set_option maxHeartbeats 16000000
set_option maxRecDepth 100000
section
open Go.RowKit
def upd{α:Type}(c:Nat->α)(i:Nat)(v:α):Nat->α:=fun j=>if j=i then v else c j
theorem upd_same{α:Type}(c:Nat->α)(i:Nat)(v:α):upd c i v i=v:=by simp[upd]
theorem upd_other{α:Type}(c:Nat->α){i j:Nat}(v:α)(h:¬j=i):upd c i v j=c j:=by simp[upd,h]
def Blk(w:World)(b N:Nat)(c:Nat->Value):Prop:=
 ∃cs t,w.heap[b]?=some (.cells cs t (0,0))∧cs.size=N∧∀i,i<N->cs[i]?=some (c i)
theorem Blk.lt{w:World}{b N:Nat}{c:Nat->Value}(h:Blk w b N c):b<w.heap.size:=by
 obtain⟨cs,t,hh,_⟩:=h;rcases Nat.lt_or_ge b w.heap.size with h'|h'
 .exact h'
 .simp[Array.getElem?_eq_none h']at hh
theorem Blk.cell{w:World}{b N:Nat}{c:Nat->Value}(h:Blk w b N c){i:Nat}(hi:i<N):w.cell? ⟨b,i,none⟩=some (c i):=by
 obtain⟨cs,t,hh,_,hc⟩:=h;simp[World.cell?,hh,hc i hi]
theorem Blk.frozen{w:World}{b N:Nat}{c:Nat->Value}(h:Blk w b N c)(i:Nat):w.frozen? ⟨b,i,none⟩=false:=by
 obtain⟨cs,t,hh,_⟩:=h;simp[World.frozen?,hh]
theorem Blk.ofHeap{w w':World}{b N:Nat}{c:Nat->Value}(h:Blk w b N c)(e:w'.heap[b]?=w.heap[b]?):Blk w' b N c:=by
 obtain⟨cs,t,hh,r⟩:=h;exact⟨cs,t,by rw[e];exact hh,r⟩
theorem Blk.congr{w:World}{b N:Nat}{c c':Nat->Value}(h:Blk w b N c)(e:∀i,i<N->c i=c' i):Blk w b N c':=by
 obtain⟨cs,t,hh,hs,hc⟩:=h;exact⟨cs,t,hh,hs,fun i hi=>by rw[<-e i hi];exact hc i hi⟩
theorem Blk.set{w:World}{b N:Nat}{c:Nat->Value}(h:Blk w b N c)(i:Nat)(v:Value):Blk (w.setCell ⟨b,i,none⟩ v) b N (upd c i v):=by
 obtain⟨cs,t,hh,hs,hc⟩:=h;refine⟨cs.setIfInBounds i v,t,?_,by simp[hs],fun j hj=>?_⟩
 .simp[World.setCell,Array.getElem?_modify,hh]
 .rw[Array.getElem?_setIfInBounds]
  by_cases e:i=j
  .subst e;simp[upd,hs,hj]
  .rw[if_neg e,hc j hj,upd_other _ _ (fun q=>e q.symm)]
theorem Blk.other{w:World}{b N:Nat}{c:Nat->Value}(h:Blk w b N c){a:Addr}(hne:¬b=a.block)(v:Value):Blk (w.setCell a v) b N c:=
 h.ofHeap (Below.heap_setCell w a v b hne)
theorem Blk.alloc{w:World}{b N:Nat}{c:Nat->Value}(h:Blk w b N c)(o:Obj):Blk (w.alloc o) b N c:=
 h.ofHeap (Below.heap_alloc w o b h.lt)
theorem Blk.drew{w:World}{b N:Nat}{c:Nat->Value}(h:Blk w b N c):Blk w.drew b N c:=h.ofHeap rfl
theorem Blk.drewN{w:World}{b N:Nat}{c:Nat->Value}(h:Blk w b N c)(n:Nat):Blk (w.drewN n) b N c:=h.ofHeap rfl
theorem heap_alloc_new(w:World)(o:Obj)(n:Nat)(hn:n=w.heap.size):(w.alloc o).heap[n]?=some o:=by
 subst hn;show(w.heap.push o)[w.heap.size]?=_;simp
theorem Blk.new(w:World)(cs:Array Value)(t:TypeId)(N:Nat)(c:Nat->Value)(n:Nat)(hn:n=w.heap.size)(hs:cs.size=N)(hc:∀i,i<N->cs[i]?=some (c i)):
  Blk (w.alloc (.cells cs t)) n N c:=⟨cs,t,heap_alloc_new w _ n hn,hs,hc⟩
structure Fr(F:Nat->Prop)(w w':World):Prop where
 os:w'.os=w.os
 tape:w'.tape=w.tape
 output:w'.output=w.output
 size:w.heap.size<=w'.heap.size
 block:∀k,k<w.heap.size->¬F k->w'.heap[k]?=w.heap[k]?
theorem Fr.refl(F:Nat->Prop)(w:World):Fr F w w:=⟨rfl,rfl,rfl,Nat.le_refl _,fun _ _ _=>rfl⟩
theorem Fr.trans{F:Nat->Prop}{a b c:World}(h:Fr F a b){G:Nat->Prop}(k:Fr G b c)(hG:∀i,G i->F i∨a.heap.size<=i):Fr F a c:=
 ⟨k.os.trans h.os,k.tape.trans h.tape,k.output.trans h.output,Nat.le_trans h.size k.size,fun i hi hF=>
  (k.block i (Nat.lt_of_lt_of_le hi h.size) (fun g=>(hG i g).elim hF (fun e=>by omega))).trans (h.block i hi hF)⟩
theorem Fr.mono{F G:Nat->Prop}{w w':World}(h:Fr F w w')(hF:∀i,F i->G i):Fr G w w':=
 ⟨h.os,h.tape,h.output,h.size,fun k hk hG=>h.block k hk (fun f=>hG (hF k f))⟩
theorem Fr.alloc{F:Nat->Prop}{a w:World}(h:Fr F a w)(o:Obj):Fr F a (w.alloc o):=
 ⟨h.os,h.tape,h.output,by have:=h.size;simp;omega,fun k hk hF=>by rw[Below.heap_alloc w o k (Nat.lt_of_lt_of_le hk h.size)];exact h.block k hk hF⟩
theorem Fr.setCell{F:Nat->Prop}{a w:World}(h:Fr F a w){p:Addr}(hp:F p.block∨a.heap.size<=p.block)(v:Value):Fr F a (w.setCell p v):=
 ⟨h.os,h.tape,h.output,by have:=h.size;simpa using this,fun k hk hF=>by
  have hne:k≠p.block:=fun e=>hp.elim (fun f=>hF (e▸f)) (fun f=>by omega)
  rw[Below.heap_setCell w p v k hne];exact h.block k hk hF⟩
theorem Fr.drew{F:Nat->Prop}{a w:World}(h:Fr F a w):Fr F a w.drew:=⟨h.os,h.tape,h.output,h.size,h.block⟩
theorem Fr.drewN{F:Nat->Prop}{a w:World}(h:Fr F a w)(n:Nat):Fr F a (w.drewN n):=⟨h.os,h.tape,h.output,h.size,h.block⟩
theorem Fr.grown{F:Nat->Prop}{a w w':World}{row:Option Nat}(h:Fr F a w)(hg:w.grownBy w' row)(hr:∀k,row=some k->F k∨a.heap.size<=k):Fr F a w':=
 ⟨hg.os.trans h.os,hg.tape.trans h.tape,hg.output.trans h.output,Nat.le_trans h.size hg.size,fun k hk hF=>by
  have hs:=h.size;rw[hg.block k (by omega) (fun e=>(hr k e.symm).elim hF (fun q=>by omega))];exact h.block k hk hF⟩
def NoF:Nat->Prop:=fun _=>False
theorem Fr.below{w w':World}(h:Fr NoF w w'):Below w.heap.size w w':=⟨h.os,h.tape,h.output,h.size,fun k hk=>h.block k hk id⟩
theorem Fr.ofBelow{w w':World}(h:Below w.heap.size w w'):Fr NoF w w':=⟨h.os,h.tape,h.output,h.size,fun k hk _=>h.block k hk⟩
theorem Fr.none{F:Nat->Prop}{w w':World}(h:Fr NoF w w'):Fr F w w':=h.mono (fun _ f=>f.elim)
theorem Blk.fr{w w':World}{b N:Nat}{c:Nat->Value}(h:Blk w b N c){F:Nat->Prop}(f:Fr F w w')(hb:¬F b):Blk w' b N c:=
 h.ofHeap (f.block b h.lt hb)
theorem Fr.cell{F:Nat->Prop}{w w':World}(f:Fr F w w'){p:Addr}(hp:p.block<w.heap.size)(hF:¬F p.block):w'.cell? p=w.cell? p:=
 World.cell?_of_block (w:=w) (f.block p.block hp hF)
theorem Fr.frozen{F:Nat->Prop}{w w':World}(f:Fr F w w'){p:Addr}(hp:p.block<w.heap.size)(hF:¬F p.block):w'.frozen? p=w.frozen? p:=
 World.frozen?_of_block (w:=w) (f.block p.block hp hF)
theorem qs{P:Program}{f:FuncId}{args:Array Value}{w:World}{n:Nat}{v:Value}
  (h:Calls P f args (w.drewN n) fun e w'=>e=.returned v∧w.drewN n=w'):Calls P f args (w.drewN n) fun e w''=>e=.returned v∧∃m,w''=w.drewN m:=
 h.mono fun _ _ ⟨he,hm⟩=>⟨he,n,hm.symm⟩
def SlC(w:World)(size:Nat)(v:Value)(m:Nat)(news:List Value):Prop:=
 ∃a c,v=.slice a m c∧news.length=m*size∧(∀u∈news,u.oneCell'=true)∧m<=c∧c<=maxLen∧
  ((a=none∧c=0)∨∃b off,a=some ⟨b,off,none⟩∧b<w.heap.size∧∀(j:Nat) (u:Value),news[j]?=some u->w.cell? ⟨b,off+j,none⟩=some u)
theorem SlC.fr{w w':World}{size m:Nat}{v:Value}{news:List Value}(h:SlC w size v m news){G:Nat->Prop}(f:Fr G w w')(hG:∀b,v.ownBlock=some b->¬G b):SlC w' size v m news:=by
 obtain⟨a,c,rfl,h1,h2,h3,h4,h5⟩:=h;refine⟨a,c,rfl,h1,h2,h3,h4,h5.imp id ?_⟩;rintro⟨b,off,rfl,hb,hc⟩;exact⟨b,off,rfl,Nat.lt_of_lt_of_le hb f.size,fun j u hj=>by rw[f.cell (p:=⟨b,off+j,none⟩) hb (hG b rfl)];exact hc j u hj⟩
theorem SlC.keep{w w':World}{size m:Nat}{v:Value}{news:List Value}(h:SlC w size v m news)(f:Fr NoF w w'):SlC w' size v m news:=h.fr f (fun _ _ q=>q)
theorem SlC.nil(w:World)(size:Nat):SlC w size (.slice none 0 0) 0 []:=⟨none,0,rfl,by simp,by simp,by omega,by unfold maxLen;omega,.inl ⟨rfl,rfl⟩⟩
theorem SlC.ofOwn{w:World}{base e size:Nat}{v:Value}{n:Nat}{xs:List Value}(h:w.ownsRow base e size v n xs)(h1:∀u∈xs,u.oneCell'=true):SlC w size v n xs:=by
 obtain⟨hl,h2⟩:=h;rcases h2 with⟨rfl,h2⟩|⟨g,cap,cur,rfl,hg,hh,h3,h4,h5,h6⟩
 .subst h2
  have:xs=[]:=List.eq_nil_of_length_eq_zero (by simpa using hl);subst this;exact SlC.nil w size
 .refine⟨_,cap,rfl,hl,h1,h3,h4,.inr ⟨g,0,rfl,?_,?_⟩⟩
  .rcases Nat.lt_or_ge g w.heap.size with h'|h'
   .exact h'
   .simp[Array.getElem?_eq_none h']at hh
  .intro j u hj
   have hjl:j<xs.length:=(List.getElem?_eq_some_iff.1 hj).1;rw[<-h6,List.getElem?_take,if_pos (by omega)]at hj;simpa[World.cell?,hh]using hj
theorem ownBlock_own{w:World}{base e size:Nat}{v:Value}{n:Nat}{xs:List Value}(h:w.ownsRow base e size v n xs):∀b,v.ownBlock=some b->base<=b:=by
 obtain⟨_,h2⟩:=h;rcases h2 with⟨rfl,_⟩|⟨g,cap,cur,rfl,hg,_⟩
 .intro b hb;cases hb
 .intro b hb;simp[Value.ownBlock]at hb;omega
theorem SlC.lt{w:World}{size m:Nat}{v:Value}{news:List Value}(h:SlC w size v m news):∀b,v.ownBlock=some b->b<w.heap.size:=by
 obtain⟨a,c,rfl,_,_,_,_,h5⟩:=h;rcases h5 with⟨rfl,_⟩|⟨b,off,rfl,hb,_⟩
 .intro b hb;cases hb
 .intro k hk;simp[Value.ownBlock]at hk;omega
theorem SlC.cut{w:World}{size m:Nat}{v:Value}{news:List Value}(h:SlC w size v m news){lo hi:Nat}(h1:lo<=hi)(h2:hi<=m){a:Option Addr}{c:Nat}(hv:v=.slice a m c)(hlc:lo<c):
  ∃b off,a=some ⟨b,off,none⟩∧SlC w size (.slice (some ⟨b,off+lo*size,none⟩) (hi-lo) (c-lo)) (hi-lo) ((news.drop (lo*size)).take ((hi-lo)*size)):=by
 obtain⟨a',c',rfl,l1,l2,l3,l4,l5⟩:=h;simp only[Value.slice.injEq]at hv;obtain⟨rfl,_,rfl⟩:=hv;rcases l5 with⟨rfl,rfl⟩|⟨b,off,rfl,hb,hc⟩
 .omega
 .refine⟨b,off,rfl,_,_,rfl,?_,fun u hu=>l2 u (List.mem_of_mem_drop (List.mem_of_mem_take hu)),by omega,by omega,.inr ⟨b,_,rfl,hb,fun j u hj=>?_⟩⟩
  .have q1:(hi-lo)*size=hi*size-lo*size:=Nat.sub_mul ..
   have q2:lo*size<=hi*size:=Nat.mul_le_mul_right _ h1;have q3:hi*size<=m*size:=Nat.mul_le_mul_right _ h2;rw[List.length_take,List.length_drop,l1];omega
  .rw[List.getElem?_take]at hj
   split at hj
   .rw[List.getElem?_drop]at hj
    rw[Nat.add_assoc];exact hc _ u hj
   .cases hj
structure EI(P:Program)(t e:TypeId)(size bytes:Nat):Prop where
 ex:P.underlying t=some (.slice e)∧∃i z,P.info? e=some i∧i.zero=some z∧i.size=size∧i.bytes=bytes∧z.cells.size=size∧0<size
theorem own_new{w w0:World}(hf:w0.heap.size<=w.heap.size)(cs:Array Value)(e size n g:Nat)(hg:g=w.heap.size)(hs:cs.size=n*size)(hm:n<=maxLen):(w.alloc (.cells cs e)).ownsRow w0.heap.size e size (.slice (some ⟨g,0,none⟩) n n) n cs.toList:=by
 subst hg;exact⟨by simp[hs],.inr ⟨w.heap.size,n,cs,rfl,hf,heap_alloc_new _ _ _ rfl,Nat.le_refl _,hm,hs,by rw[List.take_of_length_le (by simp[hs])]⟩⟩
theorem own_keep{w w':World}{base e size:Nat}{v:Value}{n:Nat}{xs:List Value}(h:w.ownsRow base e size v n xs){G:Nat->Prop}(f:Fr G w w')(hG:∀b,v.ownBlock=some b->¬G b):w'.ownsRow base e size v n xs:=by
 obtain⟨h1,h2⟩:=h;refine⟨h1,h2.imp id ?_⟩;rintro⟨g,cap,cur,rfl,hg,hh,r⟩
 have hl:g<w.heap.size:=by
  rcases Nat.lt_or_ge g w.heap.size with h'|h'
  .exact h'
  .simp[Array.getElem?_eq_none h']at hh
 exact⟨g,cap,cur,rfl,hg,by rw[f.block g hl (hG g rfl)];exact hh,r⟩
theorem heap_drew(w:World):w.drew.heap=w.heap:=rfl
theorem heap_step(w:World)(o o':Obj)(k:Nat)(h:w.heap[k]?=some o'):(w.alloc o).heap[k]?=some o':=by
 rw[Below.heap_alloc w o k ?_];exact h;rcases Nat.lt_or_ge k w.heap.size with h'|h'
 .exact h'
 .simp[Array.getElem?_eq_none h']at h
theorem sl_heap{w:World}{g n e size:Nat}{cs:Array Value}(hh:w.heap[g]?=some (.cells cs e (0,0)))(hs:cs.size=n*size)(hm:n<=maxLen)(h1:∀u∈cs.toList,u.oneCell'=true):
  SlC w size (.slice (some ⟨g,0,none⟩) n n) n cs.toList:=by
 have hl:g<w.heap.size:=by
  rcases Nat.lt_or_ge g w.heap.size with h'|h'
  .exact h'
  .simp[Array.getElem?_eq_none h']at hh
 refine⟨_,n,rfl,by simp[hs],h1,Nat.le_refl _,hm,.inr ⟨g,0,rfl,hl,fun j u hj=>?_⟩⟩;simpa[World.cell?,hh]using hj
theorem Fr.heap{F:Nat->Prop}{w w':World}(f:Fr F w w'){k:Nat}{o:Obj}(h:w.heap[k]?=some o)(hF:¬F k):w'.heap[k]?=some o:=by
 have hl:k<w.heap.size:=by
  rcases Nat.lt_or_ge k w.heap.size with h'|h'
  .exact h'
  .simp[Array.getElem?_eq_none h']at h
 rw[f.block k hl hF];exact h
theorem run_appB{P:Program}{t e size bytes:Nat}(hE:EI P t e size bytes){base:Nat}{w:World}(hbase:base<=w.heap.size)(ty:TypeId){v:Value}{n:Nat}{xs:List Value}(hown:w.ownsRow base e size v n xs)
  {sv:Value}{m:Nat}{news:List Value}(hsrc:SlC w size sv m news)(h63:n+m<=maxLen)(hb:(n+m)*bytes<=140737488355328):
  ∃v' w',(Builtin.append_ #[t,t] ty #[v,sv]).run P w=.ok v' w'∧w'.ownsRow base e size v' (n+m) (xs++news)∧Fr (fun b=>v.ownBlock=some b) w w'∧∀b,v'.ownBlock=some b->v.ownBlock=some b∨w.heap.size<=b:=by
 obtain⟨ht,i,z,hi,hz,hsize,hby,hzs,hsz⟩:=hE.ex;obtain⟨a,c,rfl,l1,l2,l3,l4,l5⟩:=hsrc;rcases l5 with⟨rfl,rfl⟩|⟨b,off,rfl,hb',hc⟩
 .obtain rfl:m=0:=by omega
  have:news=[]:=List.eq_nil_of_length_eq_zero (by simpa using l1);subst this;exact⟨v,w,run_append_owned_none (P:=P) w base t ty e i size ht hi v n xs hown,by simpa using hown,Fr.refl _ _,fun b hb=>.inl hb⟩
 .obtain⟨v',w',hr,h2,h3,_,h4⟩:=run_append_own_at (P:=P) w base t ty e i z size bytes ht hi hz hsize hby hzs hsz v n xs hown ⟨b,off,none⟩ m c news l1
   (fun j u hj=>by
    have:({block:=b,off:=off,spot:=none}:Addr).add j=⟨b,off+j,none⟩:=by
     cases j with
     |zero=>rfl
     |succ j=>simp[Addr.add]
    rw[this];exact hc j u hj) l2 h63 hb hbase
  refine⟨v',w',hr,h2,(Fr.refl _ w).grown h3 (fun k hk=>.inl hk),fun b hb=>?_⟩;rcases h4 with h4|h4
  .exact .inl (h4▸hb)
  .rw[h4]at hb;right;have:=Option.some.inj hb;omega
section
variable{P:Program}{t e size bytes:Nat}{base:Nat}{w:World}{ops:Array Oper}{o:Oper}{a:Act}{Q:Exit->Act->World->Prop}
theorem wp_appB{K:Act->World->Prop}(hE:EI P t e size bytes)(s x:Operand)(ho:o.op=.call {callee:=.builtin .append,args:=#[s,x],argTypes:=#[t,t]}){v sv:Value}(hs:a.eval s=v)(hx:a.eval x=sv)(hbase:base<=w.heap.size)
  {n:Nat}{xs:List Value}(hown:w.ownsRow base e size v n xs){m:Nat}{news:List Value}(hsrc:SlC w size sv m news)
  (h63:n+m<=maxLen)(hb:(n+m)*bytes<=140737488355328)
  (h:∀v' w',w'.ownsRow base e size v' (n+m) (xs++news)->Fr (fun b=>v.ownBlock=some b) w w'->(∀b,v'.ownBlock=some b->v.ownBlock=some b∨w.heap.size<=b)->K (a.put o.dst v') w'):o.wp P a w K Q:=by
 obtain⟨v',w',hr,h2,h3,h4⟩:=run_appB hE hbase o.type hown hsrc h63 hb;unfold Oper.wp execOp;simp only[ho,resolve,invoke,builtin,Sem.run_bind,Sem.run_pure,Result.andThen_ok,List.map_toArray,List.map_cons,List.map_nil,hs,hx,hr];exact h v' w' h2 h3 h4
theorem appLB{rest:List Oper}(hE:EI P t e size bytes)(hgd:o.guard=none)(s x:Operand)(ho:o.op=.call {callee:=.builtin .append,args:=#[s,x],argTypes:=#[t,t]}){v sv:Value}(hs:a.eval s=v)(hx:a.eval x=sv)(hbase:base<=w.heap.size)
  {n:Nat}{xs:List Value}(hown:w.ownsRow base e size v n xs){m:Nat}{news:List Value}(hsrc:SlC w size sv m news)
  (h63:n+m<=maxLen)(hb:(n+m)*bytes<=140737488355328)
  (h:∀v' w',w'.ownsRow base e size v' (n+m) (xs++news)->Fr (fun b=>v.ownBlock=some b) w w'->(∀b,v'.ownBlock=some b->v.ownBlock=some b∨w.heap.size<=b)->wpList P ops Q rest (a.put o.dst v') w'):wpList P ops Q (o::rest) a w:=
 wpList_plain hgd fun _ hK=>wp_appB hE s x ho hs hx hbase hown hsrc h63 hb fun v' w' h2 h3 h4=>hK _ _ (h v' w' h2 h3 h4)
theorem appSB{K:Act->World->Prop}{E:Prop}(hE:EI P t e size bytes)(hgd:o.guard=none)(s x:Operand)(ho:o.op=.call {callee:=.builtin .append,args:=#[s,x],argTypes:=#[t,t]}){v sv:Value}(hs:a.eval s=v)(hx:a.eval x=sv)(hbase:base<=w.heap.size)
  {n:Nat}{xs:List Value}(hown:w.ownsRow base e size v n xs){m:Nat}{news:List Value}(hsrc:SlC w size sv m news)
  (h63:n+m<=maxLen)(hb:(n+m)*bytes<=140737488355328)
  (h:∀v' w',w'.ownsRow base e size v' (n+m) (xs++news)->Fr (fun b=>v.ownBlock=some b) w w'->(∀b,v'.ownBlock=some b->v.ownBlock=some b∨w.heap.size<=b)->K (a.put o.dst v') w'):
  if Region.wanted o (yielded ops a.tmps)=true then Oper.wp P o a w K Q else E:=by
 have hw:Region.wanted o (yielded ops a.tmps)=true:=by simp[Region.wanted,hgd]
 rw[if_pos hw];exact wp_appB hE s x ho hs hx hbase hown hsrc h63 hb h
end
theorem SlC.at{w:World}{size m:Nat}{v:Value}{news:List Value}(h:SlC w size v m news){k:Nat}(hk:k<m)(hs:0<size):
  ∃b off c,v=.slice (some ⟨b,off,none⟩) m c∧m<=c∧c<=maxLen∧b<w.heap.size∧∀(j:Nat) (u:Value),news[j]?=some u->w.cell? ⟨b,off+j,none⟩=some u:=by
 obtain⟨a,c,rfl,l1,l2,l3,l4,l5⟩:=h;rcases l5 with⟨rfl,rfl⟩|⟨b,off,rfl,hb,hc⟩
 .omega
 .exact⟨b,off,c,rfl,l3,l4,hb,hc⟩
theorem SlC.shape{w:World}{size m:Nat}{v:Value}{news:List Value}(h:SlC w size v m news):∃a c,v=.slice a m c∧m<=c∧c<=maxLen:=by
 obtain⟨a,c,rfl,l1,l2,l3,l4,l5⟩:=h;exact⟨a,c,rfl,l3,l4⟩
theorem SlC.len{w:World}{size m:Nat}{v:Value}{news:List Value}(h:SlC w size v m news):m<=maxLen:=by
 obtain⟨a,c,rfl,l1,l2,l3,l4,l5⟩:=h;omega
def SlK(k:IntKind)(w:World)(v:Value)(l:List Nat):Prop:=SlC w 1 v l.length (l.map fun(x:Nat)=>Value.int k (x:Int))
theorem SlK.nil(k:IntKind)(w:World):SlK k w (.slice none 0 0) []:=SlC.nil w 1
theorem SlK.fr{k:IntKind}{w w':World}{v:Value}{l:List Nat}(h:SlK k w v l){G:Nat->Prop}(f:Fr G w w')(hG:∀b,v.ownBlock=some b->¬G b):SlK k w' v l:=SlC.fr h f hG
theorem SlK.keep{k:IntKind}{w w':World}{v:Value}{l:List Nat}(h:SlK k w v l)(f:Fr NoF w w'):SlK k w' v l:=SlC.fr h f (fun _ _ q=>q)
theorem SlK.at{k:IntKind}{w:World}{v:Value}{l:List Nat}(h:SlK k w v l){i:Nat}(hi:i<l.length):
  ∃b off c,v=.slice (some ⟨b,off,none⟩) l.length c∧l.length<=c∧c<=maxLen∧b<w.heap.size∧w.cell? ⟨b,off+i,none⟩=some (.int k (l[i]:Nat)):=by
 obtain⟨b,off,c,e,h1,h2,h3,h4⟩:=SlC.at h hi (by omega);exact⟨b,off,c,e,h1,h2,h3,h4 i _ (by simp[hi])⟩
theorem SlK.shape{k:IntKind}{w:World}{v:Value}{l:List Nat}(h:SlK k w v l):∃a c,v=.slice a l.length c∧l.length<=c∧c<=maxLen:=SlC.shape h
theorem SlK.lt{k:IntKind}{w:World}{v:Value}{l:List Nat}(h:SlK k w v l):∀b,v.ownBlock=some b->b<w.heap.size:=SlC.lt h
def OwK(k:IntKind)(base:Nat)(e:TypeId)(w:World)(v:Value)(l:List Nat):Prop:=w.ownsRow base e 1 v l.length (l.map fun(x:Nat)=>Value.int k (x:Int))
theorem OwK.sl{k:IntKind}{base:Nat}{e:TypeId}{w:World}{v:Value}{l:List Nat}(h:OwK k base e w v l):SlK k w v l:=
 SlC.ofOwn h (fun u hu=>by obtain⟨z,_,rfl⟩:=List.mem_map.1 hu;rfl)
theorem OwK.nil(k:IntKind)(base:Nat)(e:TypeId)(w:World):OwK k base e w (.slice none 0 0) []:=World.ownsRow_nil _ _ _ _
theorem OwK.base{k:IntKind}{base:Nat}{e:TypeId}{w:World}{v:Value}{l:List Nat}(h:OwK k base e w v l):∀b,v.ownBlock=some b->base<=b:=ownBlock_own h
def bF(ev:Nat->Bool)(i:Nat):Value:=.bool (ev i)
theorem bF_set(ev:Nat->Bool)(i:Nat)(v:Bool):upd (bF ev) i (.bool v)=bF (upd ev i v):=by
 funext j
 by_cases e:j=i
 .subst e;simp[upd_same,bF]
 .rw[upd_other _ _ e];simp[bF,upd_other _ _ e]
theorem made_at{z:Array Value}{N i:Nat}(hi:i<N):(madeCells z N)[i]?=some z[i%z.size]!:=by
 unfold madeCells;rw[Array.getElem?_map,Array.getElem?_range,if_pos hi];rfl
end
section
open Go.Maps Go.RowKit
def updI(m:Int->Option Int)(x:Int)(y:Option Int):Int->Option Int:=fun z=>if z=x then y else m z
theorem updI_same(m:Int->Option Int)(x:Int)(y:Option Int):updI m x y x=y:=by simp[updI]
theorem updI_other(m:Int->Option Int){x z:Int}(y:Option Int)(h:¬z=x):updI m x y z=m z:=by simp[updI,h]
structure MI(P:Program)(t k e:TypeId)(kq eq:IntKind):Prop where
 ut:P.underlying t=some (.map k e)
 uk:P.underlying k=some (.int kq)
 ue:P.underlying e=some (.int eq)
 z:∀w:World,(zeroValue e).run P w=.ok (.int eq 0) w
def Sees(kq eq:IntKind)(D:DataW Unit)(m:Int->Option Int):Prop:=∀x,(Lit.int kq x).wf=true->(m x=none->Maps.has D (.int kq x)=false)∧∀y,m x=some y->Maps.has D (.int kq x)=true∧D.atKey (.int kq x) (.lit (.int eq 0))=.lit (.int eq y)
def MpN(P:Program)(k e:TypeId)(kq eq:IntKind)(w:World)(b c:Nat)(m:Int->Option Int):Prop:=
 ∃D:DataW Unit,w.ownsMap P k (plainElem P e) b c D∧Maps.size D=c∧Sees kq eq D m
section
variable{P:Program}{t k e:TypeId}{kq eq:IntKind}{w w':World}{b c:Nat}{m:Int->Option Int}
theorem owns_tight{R:Value->Option (DataW Unit×List MemPlace)}{n:Nat}{D:DataW Unit}(h:w.ownsMap P k R b n D):w.ownsMap P k R b (Maps.size D) D:=by
 obtain⟨es,clock,hb,F,hs,rfl⟩:=h;exact⟨es,clock,hb,F,by rw[Maps.size_eq,length_read];exact Nat.le_refl _,rfl⟩
theorem MpN.lt(h:MpN P k e kq eq w b c m):b<w.heap.size:=by obtain⟨D,h,_⟩:=h;exact h.lt
theorem MpN.fr(h:MpN P k e kq eq w b c m){G:Nat->Prop}(f:Fr G w w')(hG:¬G b):MpN P k e kq eq w' b c m:=by
 have hl:=h.lt;obtain⟨D,⟨es,clock,hb,r⟩,r2⟩:=h;exact⟨D,⟨es,clock,by rw[f.block b hl hG];exact hb,r⟩,r2⟩
theorem MpN.made(P:Program)(k e:TypeId)(kq eq:IntKind)(w:World):MpN P k e kq eq (w.alloc (.map #[] 0)) w.heap.size 0 (fun _=>none):=
 ⟨.map [],World.ownsMap_made w P k _,rfl,fun x _=>⟨fun _=>rfl,fun y q=>(by cases q)⟩⟩
theorem turned_fr(h:w.mapTurned w' b):Fr (fun i=>i=b) w w':=(Fr.refl _ w).grown h.grown (fun i q=>.inl (by cases q;rfl))
theorem keyLit{x:Int}:WideAt.IsKeyLit (Lit.int kq x):=trivial
theorem MpN.put_of{D:DataW Unit}(M:MI P t k e kq eq){n:Nat}{x y:Int}(h:w'.ownsMap P k (plainElem P e) b n (D.put (.int kq x) (.lit (.int eq y))))(ht:Tidy D)(hs:Maps.size D=c)(hv:Sees kq eq D m)(hx:(Lit.int kq x).wf=true):
  MpN P k e kq eq w' b (if(m x).isSome then c else c+1) (updI m x (some y)):=by
 have hsz:=size_put (k:=.int kq x) ht (.lit (.int eq y))
 have hh:Maps.has D (.int kq x)=(m x).isSome:=by
  cases em:m x with
  |none=>exact(hv x hx).1 em
  |some z=>exact((hv x hx).2 z em).1
 rw[hs,hh]at hsz;refine⟨_,by rw[<-hsz];exact owns_tight h,hsz,fun z hz=>?_⟩;by_cases e1:z=x
 .subst e1
  rw[updI_same];exact⟨fun q=>(by cases q),fun y' q=>by cases q;exact⟨has_put_same ht.isMap keyLit _,atKey_put_same ht.isMap keyLit _ _⟩⟩
 .rw[updI_other _ _ e1]
  have ne:Lit.int kq z≠Lit.int kq x:=fun q=>e1 (by cases q;rfl)
  rw[has_put_other ne,atKey_put_other ne];exact hv z hz
theorem MpN.del_of{D:DataW Unit}{n:Nat}{x:Int}(h:w'.ownsMap P k (plainElem P e) b n (D.del (.int kq x)))(ht:Tidy D)(hs:Maps.size D=c)(hv:Sees kq eq D m)(hx:(Lit.int kq x).wf=true):
  MpN P k e kq eq w' b (if(m x).isSome then c-1 else c) (updI m x none):=by
 have hsz:=size_del (k:=.int kq x) ht
 have hh:Maps.has D (.int kq x)=(m x).isSome:=by
  cases em:m x with
  |none=>exact(hv x hx).1 em
  |some z=>exact((hv x hx).2 z em).1
 rw[hs,hh]at hsz
 have hsz':Maps.size (D.del (.int kq x))=if(m x).isSome then c-1 else c:=by
  split at hsz
  .rename_i q;rw[if_pos q];omega
  .rename_i q;rw[if_neg q];omega
 refine⟨_,by rw[<-hsz'];exact owns_tight h,hsz',fun z hz=>?_⟩;by_cases e1:z=x
 .subst e1
  rw[updI_same];exact⟨fun _=>has_del_same,fun y' q=>(by cases q)⟩
 .rw[updI_other _ _ e1]
  have ne:Lit.int kq z≠Lit.int kq x:=fun q=>e1 (by cases q;rfl)
  rw[has_del_other ne,atKey_del_other ne];exact hv z hz
variable{ops:Array Oper}{rest:List Oper}{o:Oper}{a:Act}{Q:Exit->Act->World->Prop}
theorem wp_lookN(M:MI P t k e kq eq)(h:MpN P k e kq eq w b c m)(hg:o.guard=none)(mo xo:Operand)(hop:o.op=Op.lookup t mo xo true)(hm:a.eval mo=.map (some b)){x:Int}(hx:a.eval xo=.int kq x)(hw:(Lit.int kq x).wf=true)
  (hK:wpList P ops Q rest (a.put o.dst (.tuple #[.int eq ((m x).getD 0),.bool (m x).isSome])) w):wpList P ops Q (o::rest) a w:=by
 obtain⟨D,h1,h2,h3⟩:=h;refine wpList_lookup_own_ok_int w hg mo xo t hop k e eq (int_keyed M.uk) M.ut M.ue (M.z w) b c D hm h1 _ _ hx (keyOf_int_mk M.uk hw) (fun cc hat hwc=>?_)
 have:(Maps.has D (.int kq x))=(m x).isSome∧cc=(m x).getD 0:=by
  cases em:m x with
  |none=>
   have hh:=(h3 x hw).1 em;refine⟨hh,?_⟩;rw[atKey_of_not_has hh]at hat;simpa using hat.symm
  |some z=>
   obtain⟨q1,q2⟩:=(h3 x hw).2 z em;refine⟨q1,?_⟩;rw[q2]at hat;simpa using hat.symm
 rw[this.1,this.2];exact hK
theorem wp_lookN_some(M:MI P t k e kq eq)(h:MpN P k e kq eq w b c m){x y:Int}(hmx:m x=some y)(hg:o.guard=none)(mo xo:Operand)(hop:o.op=Op.lookup t mo xo true)(hm:a.eval mo=.map (some b))(hx:a.eval xo=.int kq x)(hw:(Lit.int kq x).wf=true)
  (hK:wpList P ops Q rest (a.put o.dst (.tuple #[.int eq y,.bool true])) w):wpList P ops Q (o::rest) a w:=
 wp_lookN M h hg mo xo hop hm hx hw (by rw[hmx];exact hK)
theorem wp_lookN_none(M:MI P t k e kq eq)(h:MpN P k e kq eq w b c m){x:Int}(hmx:m x=none)(hg:o.guard=none)(mo xo:Operand)(hop:o.op=Op.lookup t mo xo true)(hm:a.eval mo=.map (some b))(hx:a.eval xo=.int kq x)(hw:(Lit.int kq x).wf=true)
  (hK:wpList P ops Q rest (a.put o.dst (.tuple #[.int eq 0,.bool false])) w):wpList P ops Q (o::rest) a w:=
 wp_lookN M h hg mo xo hop hm hx hw (by rw[hmx];exact hK)
end
end
end Go.Proofs.Ytcccbdnojlmgaaa
