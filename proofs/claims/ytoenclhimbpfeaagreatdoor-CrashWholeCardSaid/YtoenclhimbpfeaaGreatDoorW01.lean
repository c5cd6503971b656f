/- Part 1. -/
import Derived.Lib.Hide
import Derived.Deep.QuietTactic
import Derived.Test.YtoenclhimbpfeaaGreatDoorRows
import Derived.Handy
import Derived.Deep.LoopGhost
import Derived.WalkSpells
namespace Go.Proofs.YtoenclhimbpfeaaGreatDoor
set_option linter.all false
set_option maxHeartbeats 16000000
set_option maxRecDepth 100000
section
open Go.RowKit
abbrev Hd:=@Lib.hid
def upd{α:Type}(c:Nat->α)(i:Nat)(v:α):Nat->α:=λj=>if j=i then v else c j
theorem upd_same{α:Type}(c:Nat->α)(i:Nat)(v:α):upd c i v i=v:=by simp[upd]
theorem aa{α:Type}(c:Nat->α){i j:Nat}(v:α)(h:¬j=i):upd c i v j=c j:=by simp[upd,h]
def Blk(w:World)(b N:Nat)(c:Nat->Value):Prop:=
 ∃cs t,w.heap[b]?=some (.cells cs t (0,0))/\cs.size=N/\∀i,i<N->cs[i]?=some (c i)
theorem Blk.lt{w:World}{b N:Nat}{c:Nat->Value}(h:Blk w b N c):b<w.heap.size:=by
 obtain⟨cs,t,hh,_⟩:=h;rcases Nat.lt_or_ge b w.heap.size with h'|h'
 .exact h'
 .simp[Array.getElem?_eq_none h']at hh
theorem Blk.cell{w:World}{b N:Nat}{c:Nat->Value}(h:Blk w b N c){i:Nat}(hi:i<N):w.cell? ⟨b,i,none⟩=some (c i):=by
 obtain⟨cs,t,hh,_,hc⟩:=h;simp[World.cell?,hh,hc i hi]
theorem Blk.frozen{w:World}{b N:Nat}{c:Nat->Value}(h:Blk w b N c)(i:Nat):w.frozen? ⟨b,i,none⟩=false:=by
 obtain⟨cs,t,hh,_⟩:=h;simp[World.frozen?,hh]
theorem Blk.ofHeap{w w':World}{b N:Nat}{c:Nat->Value}(h:Blk w b N c)(e:w'.heap[b]?=w.heap[b]?):Blk w' b N c:=by
 obtain⟨cs,t,hh,r⟩:=h;exact⟨cs,t,by rw[e];exact hh,r⟩
theorem Blk.congr{w:World}{b N:Nat}{c c':Nat->Value}(h:Blk w b N c)(e:∀i,i<N->c i=c' i):Blk w b N c':=by
 obtain⟨cs,t,hh,hs,hc⟩:=h;exact⟨cs,t,hh,hs,λi hi=>by rw[<-e i hi];exact hc i hi⟩
theorem Blk.set{w:World}{b N:Nat}{c:Nat->Value}(h:Blk w b N c)(i:Nat)(v:Value):Blk (w.setCell ⟨b,i,none⟩ v) b N (upd c i v):=by
 obtain⟨cs,t,hh,hs,hc⟩:=h;refine⟨cs.setIfInBounds i v,t,?_,by simp[hs],λj hj=>?_⟩
 .simp[World.setCell,Array.getElem?_modify,hh]
 .rw[Array.getElem?_setIfInBounds]
  by_cases e:i=j
  .subst e;simp[upd,hs,hj]
  .rw[if_neg e,hc j hj,aa _ _ (λq=>e q.symm)]
theorem Blk.other{w:World}{b N:Nat}{c:Nat->Value}(h:Blk w b N c){a:Addr}(hne:¬b=a.block)(v:Value):Blk (w.setCell a v) b N c:=
 h.ofHeap (Below.heap_setCell w a v b hne)
theorem Blk.alloc{w:World}{b N:Nat}{c:Nat->Value}(h:Blk w b N c)(o:Obj):Blk (w.alloc o) b N c:=
 h.ofHeap (Below.heap_alloc w o b h.lt)
theorem Blk.drew{w:World}{b N:Nat}{c:Nat->Value}(h:Blk w b N c):Blk w.drew b N c:=h.ofHeap rfl
theorem Blk.drewN{w:World}{b N:Nat}{c:Nat->Value}(h:Blk w b N c)(n:Nat):Blk (w.drewN n) b N c:=h.ofHeap rfl
theorem heap_alloc_new(w:World)(o:Obj)(n:Nat)(hn:n=w.heap.size):(w.alloc o).heap[n]?=some o:=by
 subst hn;show(w.heap.push o)[w.heap.size]?=_;simp
theorem Blk.new(w:World)(cs:Array Value)(t:TypeId)(N:Nat)(c:Nat->Value)(n:Nat)(hn:n=w.heap.size)(hs:cs.size=N)(hc:∀i,i<N->cs[i]?=some (c i)):
  Blk (w.alloc (.cells cs t)) n N c:=⟨cs,t,heap_alloc_new w _ n hn,hs,hc⟩
structure Fr(F:Nat->Prop)(w w':World):Prop where
 os:w'.os=w.os
 tape:w'.tape=w.tape
 output:w'.output=w.output
 size:w.heap.size<=w'.heap.size
 block:∀k,k<w.heap.size->¬F k->w'.heap[k]?=w.heap[k]?
theorem Fr.refl(F:Nat->Prop)(w:World):Fr F w w:=⟨rfl,rfl,rfl,Nat.le_refl _,λ_ _ _=>rfl⟩
theorem Fr.trans{F:Nat->Prop}{a b c:World}(h:Fr F a b){G:Nat->Prop}(k:Fr G b c)(hG:∀i,G i->F i\/a.heap.size<=i):Fr F a c:=
 ⟨k.os.trans h.os,k.tape.trans h.tape,k.output.trans h.output,Nat.le_trans h.size k.size,λi hi hF=>
  (k.block i (Nat.lt_of_lt_of_le hi h.size) (λg=>(hG i g).elim hF (λe=>by omega))).trans (h.block i hi hF)⟩
theorem Fr.mono{F G:Nat->Prop}{w w':World}(h:Fr F w w')(hF:∀i,F i->G i):Fr G w w':=
 ⟨h.os,h.tape,h.output,h.size,λk hk hG=>h.block k hk (λf=>hG (hF k f))⟩
theorem Fr.alloc{F:Nat->Prop}{a w:World}(h:Fr F a w)(o:Obj):Fr F a (w.alloc o):=
 ⟨h.os,h.tape,h.output,by have:=h.size;simp;omega,λk hk hF=>by rw[Below.heap_alloc w o k (Nat.lt_of_lt_of_le hk h.size)];exact h.block k hk hF⟩
theorem Fr.setCell{F:Nat->Prop}{a w:World}(h:Fr F a w){p:Addr}(hp:F p.block\/a.heap.size<=p.block)(v:Value):Fr F a (w.setCell p v):=
 ⟨h.os,h.tape,h.output,by have:=h.size;simpa using this,λk hk hF=>by
  have hne:k≠p.block:=λe=>hp.elim (λf=>hF (e▸f)) (λf=>by omega)
  rw[Below.heap_setCell w p v k hne];exact h.block k hk hF⟩
theorem Fr.drew{F:Nat->Prop}{a w:World}(h:Fr F a w):Fr F a w.drew:=⟨h.os,h.tape,h.output,h.size,h.block⟩
theorem Fr.drewN{F:Nat->Prop}{a w:World}(h:Fr F a w)(n:Nat):Fr F a (w.drewN n):=⟨h.os,h.tape,h.output,h.size,h.block⟩
theorem Fr.grown{F:Nat->Prop}{a w w':World}{row:Option Nat}(h:Fr F a w)(hg:w.grownBy w' row)(hr:∀k,row=some k->F k\/a.heap.size<=k):Fr F a w':=
 ⟨hg.os.trans h.os,hg.tape.trans h.tape,hg.output.trans h.output,Nat.le_trans h.size hg.size,λk hk hF=>by
  have hs:=h.size;rw[hg.block k (by omega) (λe=>(hr k e.symm).elim hF (λq=>by omega))];exact h.block k hk hF⟩
def NoF:Nat->Prop:=λ_=>False
theorem Fr.below{w w':World}(h:Fr NoF w w'):Below w.heap.size w w':=⟨h.os,h.tape,h.output,h.size,λk hk=>h.block k hk id⟩
theorem Fr.ofBelow{w w':World}(h:Below w.heap.size w w'):Fr NoF w w':=⟨h.os,h.tape,h.output,h.size,λk hk _=>h.block k hk⟩
theorem Fr.none{F:Nat->Prop}{w w':World}(h:Fr NoF w w'):Fr F w w':=h.mono (λ_ f=>f.elim)
theorem Blk.fr{w w':World}{b N:Nat}{c:Nat->Value}(h:Blk w b N c){F:Nat->Prop}(f:Fr F w w')(hb:¬F b):Blk w' b N c:=
 h.ofHeap (f.block b h.lt hb)
theorem Fr.cell{F:Nat->Prop}{w w':World}(f:Fr F w w'){p:Addr}(hp:p.block<w.heap.size)(hF:¬F p.block):w'.cell? p=w.cell? p:=
 World.cell?_of_block (w:=w) (f.block p.block hp hF)
theorem Fr.frozen{F:Nat->Prop}{w w':World}(f:Fr F w w'){p:Addr}(hp:p.block<w.heap.size)(hF:¬F p.block):w'.frozen? p=w.frozen? p:=
 World.frozen?_of_block (w:=w) (f.block p.block hp hF)
theorem qs{P:Program}{f:FuncId}{args:Array Value}{w:World}{n:Nat}{v:Value}
  (h:Calls P f args (w.drewN n) λe w'=>e=.returned v/\w.drewN n=w'):Calls P f args (w.drewN n) λe w''=>e=.returned v/\∃m,w''=w.drewN m:=
 h.mono λ_ _ ⟨he,hm⟩=>⟨he,n,hm.symm⟩
theorem wpw{φ:Act->World->Prop}{a:Act}{w:World}(h:∀w',w'=w->φ a w'):φ a w:=h w rfl
def SlC(w:World)(size:Nat)(v:Value)(m:Nat)(news:List Value):Prop:=
 ∃a c,v=.slice a m c/\news.length=m*size/\(∀u∈news,u.oneCell'=true)/\m<=c/\c<=maxLen/\
  ((a=none/\c=0)\/∃b off,a=some ⟨b,off,none⟩/\b<w.heap.size/\∀(j:Nat) (u:Value),news[j]?=some u->w.cell? ⟨b,off+j,none⟩=some u)
theorem SlC.fr{w w':World}{size m:Nat}{v:Value}{news:List Value}(h:SlC w size v m news){G:Nat->Prop}(f:Fr G w w')(hG:∀b,v.ownBlock=some b->¬G b):SlC w' size v m news:=by
 obtain⟨a,c,rfl,h1,h2,h3,h4,h5⟩:=h;refine⟨a,c,rfl,h1,h2,h3,h4,h5.imp id ?_⟩;rintro⟨b,off,rfl,hb,hc⟩;exact⟨b,off,rfl,Nat.lt_of_lt_of_le hb f.size,λj u hj=>by rw[f.cell (p:=⟨b,off+j,none⟩) hb (hG b rfl)];exact hc j u hj⟩
theorem SlC.keep{w w':World}{size m:Nat}{v:Value}{news:List Value}(h:SlC w size v m news)(f:Fr NoF w w'):SlC w' size v m news:=h.fr f (λ_ _ q=>q)
theorem SlC.nil(w:World)(size:Nat):SlC w size (.slice none 0 0) 0 []:=⟨none,0,rfl,by simp,by simp,by omega,by unfold maxLen;omega,.inl ⟨rfl,rfl⟩⟩
theorem SlC.ofOwn{w:World}{base e size:Nat}{v:Value}{n:Nat}{xs:List Value}(h:w.ownsRow base e size v n xs)(h1:∀u∈xs,u.oneCell'=true):SlC w size v n xs:=by
 obtain⟨hl,h2⟩:=h;rcases h2 with⟨rfl,h2⟩|⟨g,cap,cur,rfl,hg,hh,h3,h4,h5,h6⟩
 .subst h2
  have:xs=[]:=List.eq_nil_of_length_eq_zero (by simpa using hl);subst this;exact SlC.nil w size
 .refine⟨_,cap,rfl,hl,h1,h3,h4,.inr ⟨g,0,rfl,?_,?_⟩⟩
  .rcases Nat.lt_or_ge g w.heap.size with h'|h'
   .exact h'
   .simp[Array.getElem?_eq_none h']at hh
  .intro j u hj
   have hjl:j<xs.length:=(List.getElem?_eq_some_iff.1 hj).1;rw[<-h6,List.getElem?_take,if_pos (by omega)]at hj;simpa[World.cell?,hh]using hj
theorem aj{w:World}{base e size:Nat}{v:Value}{n:Nat}{xs:List Value}(h:w.ownsRow base e size v n xs):∀b,v.ownBlock=some b->base<=b:=by
 obtain⟨_,h2⟩:=h;rcases h2 with⟨rfl,_⟩|⟨g,cap,cur,rfl,hg,_⟩
 .intro b hb;cases hb
 .intro b hb;simp[Value.ownBlock]at hb;omega
theorem SlC.cut{w:World}{size m:Nat}{v:Value}{news:List Value}(h:SlC w size v m news){lo hi:Nat}(h1:lo<=hi)(h2:hi<=m){a:Option Addr}{c:Nat}(hv:v=.slice a m c)(hlc:lo<c):
  ∃b off,a=some ⟨b,off,none⟩/\SlC w size (.slice (some ⟨b,off+lo*size,none⟩) (hi-lo) (c-lo)) (hi-lo) ((news.drop (lo*size)).take ((hi-lo)*size)):=by
 obtain⟨a',c',rfl,l1,l2,l3,l4,l5⟩:=h;simp only[Value.slice.injEq]at hv;obtain⟨rfl,_,rfl⟩:=hv;rcases l5 with⟨rfl,rfl⟩|⟨b,off,rfl,hb,hc⟩
 .omega
 .refine⟨b,off,rfl,_,_,rfl,?_,λu hu=>l2 u (List.mem_of_mem_drop (List.mem_of_mem_take hu)),by omega,by omega,.inr ⟨b,_,rfl,hb,λj u hj=>?_⟩⟩
  .have q1:(hi-lo)*size=hi*size-lo*size:=Nat.sub_mul ..
   have q2:lo*size<=hi*size:=Nat.mul_le_mul_right _ h1;have q3:hi*size<=m*size:=Nat.mul_le_mul_right _ h2;rw[List.length_take,List.length_drop,l1];omega
  .rw[List.getElem?_take]at hj
   split at hj
   .rw[List.getElem?_drop]at hj
    rw[Nat.add_assoc];exact hc _ u hj
   .cases hj
structure EI(P:Program)(t e:TypeId)(size bytes:Nat):Prop where
 ex:P.underlying t=some (.slice e)/\∃i z,P.info? e=some i/\i.zero=some z/\i.size=size/\i.bytes=bytes/\z.cells.size=size/\0<size
theorem aQ{w w0:World}(hf:w0.heap.size<=w.heap.size)(cs:Array Value)(e size n g:Nat)(hg:g=w.heap.size)(hs:cs.size=n*size)(hm:n<=maxLen):(w.alloc (.cells cs e)).ownsRow w0.heap.size e size (.slice (some ⟨g,0,none⟩) n n) n cs.toList:=by
 subst hg;exact⟨by simp[hs],.inr ⟨w.heap.size,n,cs,rfl,hf,heap_alloc_new _ _ _ rfl,Nat.le_refl _,hm,hs,by rw[List.take_of_length_le (by simp[hs])]⟩⟩
theorem ak{w w':World}{base e size:Nat}{v:Value}{n:Nat}{xs:List Value}(h:w.ownsRow base e size v n xs){G:Nat->Prop}(f:Fr G w w')(hG:∀b,v.ownBlock=some b->¬G b):w'.ownsRow base e size v n xs:=by
 obtain⟨h1,h2⟩:=h;refine⟨h1,h2.imp id ?_⟩;rintro⟨g,cap,cur,rfl,hg,hh,r⟩
 have hl:g<w.heap.size:=by
  rcases Nat.lt_or_ge g w.heap.size with h'|h'
  .exact h'
  .simp[Array.getElem?_eq_none h']at hh
 exact⟨g,cap,cur,rfl,hg,by rw[f.block g hl (hG g rfl)];exact hh,r⟩
theorem heap_drew(w:World):w.drew.heap=w.heap:=rfl
theorem aH(w:World)(o o':Obj)(k:Nat)(h:w.heap[k]?=some o'):(w.alloc o).heap[k]?=some o':=by
 rw[Below.heap_alloc w o k ?_];exact h;rcases Nat.lt_or_ge k w.heap.size with h'|h'
 .exact h'
 .simp[Array.getElem?_eq_none h']at h
theorem jY{w:World}{g n e size:Nat}{cs:Array Value}(hh:w.heap[g]?=some (.cells cs e (0,0)))(hs:cs.size=n*size)(hm:n<=maxLen)(h1:∀u∈cs.toList,u.oneCell'=true):
  SlC w size (.slice (some ⟨g,0,none⟩) n n) n cs.toList:=by
 have hl:g<w.heap.size:=by
  rcases Nat.lt_or_ge g w.heap.size with h'|h'
  .exact h'
  .simp[Array.getElem?_eq_none h']at hh
 refine⟨_,n,rfl,by simp[hs],h1,Nat.le_refl _,hm,.inr ⟨g,0,rfl,hl,λj u hj=>?_⟩⟩;simpa[World.cell?,hh]using hj
theorem zS{P:Program}{t e size bytes:Nat}(hE:EI P t e size bytes){base:Nat}{w:World}(hbase:base<=w.heap.size)(ty:TypeId){v:Value}{n:Nat}{xs:List Value}(hown:w.ownsRow base e size v n xs)
  {sv:Value}{m:Nat}{news:List Value}(hsrc:SlC w size sv m news)(h63:n+m<=maxLen)(hb:(n+m)*bytes<=140737488355328):
  ∃v' w',(Builtin.append_ #[t,t] ty #[v,sv]).run P w=.ok v' w'/\w'.ownsRow base e size v' (n+m) (xs++news)/\Fr (λb=>v.ownBlock=some b) w w'/\∀b,v'.ownBlock=some b->v.ownBlock=some b\/w.heap.size<=b:=by
 obtain⟨ht,i,z,hi,hz,hsize,hby,hzs,hsz⟩:=hE.ex;obtain⟨a,c,rfl,l1,l2,l3,l4,l5⟩:=hsrc;rcases l5 with⟨rfl,rfl⟩|⟨b,off,rfl,hb',hc⟩
 .obtain rfl:m=0:=by omega
  have:news=[]:=List.eq_nil_of_length_eq_zero (by simpa using l1);subst this;exact⟨v,w,run_append_owned_none (P:=P) w base t ty e i size ht hi v n xs hown,by simpa using hown,Fr.refl _ _,λb hb=>.inl hb⟩
 .obtain⟨v',w',hr,h2,h3,_,h4⟩:=run_append_own_at (P:=P) w base t ty e i z size bytes ht hi hz hsize hby hzs hsz v n xs hown ⟨b,off,none⟩ m c news l1
   (λj u hj=>by
    have:({block:=b,off:=off,spot:=none}:Addr).add j=⟨b,off+j,none⟩:=by
     cases j with
     |zero=>rfl
     |succ j=>simp[Addr.add]
    rw[this];exact hc j u hj) l2 h63 hb hbase
  refine⟨v',w',hr,h2,(Fr.refl _ w).grown h3 (λk hk=>.inl hk),λb hb=>?_⟩;rcases h4 with h4|h4
  .exact .inl (h4▸hb)
  .rw[h4]at hb;right;have:=Option.some.inj hb;omega
section
variable{P:Program}{t e size bytes:Nat}{base:Nat}{w:World}{ops:Array Oper}{o:Oper}{a:Act}{Q:Exit->Act->World->Prop}
theorem tX{K:Act->World->Prop}(hE:EI P t e size bytes)(s x:Operand)(ho:o.op=.call {callee:=.builtin .append,args:=#[s,x],argTypes:=#[t,t]}){v sv:Value}(hs:a.eval s=v)(hx:a.eval x=sv)(hbase:base<=w.heap.size)
  {n:Nat}{xs:List Value}(hown:w.ownsRow base e size v n xs){m:Nat}{news:List Value}(hsrc:SlC w size sv m news)
  (h63:n+m<=maxLen)(hb:(n+m)*bytes<=140737488355328)
  (h:∀v' w',w'.ownsRow base e size v' (n+m) (xs++news)->Fr (λb=>v.ownBlock=some b) w w'->(∀b,v'.ownBlock=some b->v.ownBlock=some b\/w.heap.size<=b)->K (a.put o.dst v') w'):o.wp P a w K Q:=by
 obtain⟨v',w',hr,h2,h3,h4⟩:=zS hE hbase o.type hown hsrc h63 hb;unfold Oper.wp execOp;simp only[ho,resolve,invoke,builtin,Sem.run_bind,Sem.run_pure,Result.andThen_ok,List.map_toArray,List.map_cons,List.map_nil,hs,hx,hr];exact h v' w' h2 h3 h4
theorem eT{rest:List Oper}(hE:EI P t e size bytes)(hgd:o.guard=none)(s x:Operand)(ho:o.op=.call {callee:=.builtin .append,args:=#[s,x],argTypes:=#[t,t]}){v sv:Value}(hs:a.eval s=v)(hx:a.eval x=sv)(hbase:base<=w.heap.size)
  {n:Nat}{xs:List Value}(hown:w.ownsRow base e size v n xs){m:Nat}{news:List Value}(hsrc:SlC w size sv m news)
  (h63:n+m<=maxLen)(hb:(n+m)*bytes<=140737488355328)
  (h:∀v' w',w'.ownsRow base e size v' (n+m) (xs++news)->Fr (λb=>v.ownBlock=some b) w w'->(∀b,v'.ownBlock=some b->v.ownBlock=some b\/w.heap.size<=b)->wpList P ops Q rest (a.put o.dst v') w'):wpList P ops Q (o::rest) a w:=
 wpList_plain hgd λ_ hK=>tX hE s x ho hs hx hbase hown hsrc h63 hb λv' w' h2 h3 h4=>hK _ _ (h v' w' h2 h3 h4)
theorem eU{K:Act->World->Prop}{E:Prop}(hE:EI P t e size bytes)(hgd:o.guard=none)(s x:Operand)(ho:o.op=.call {callee:=.builtin .append,args:=#[s,x],argTypes:=#[t,t]}){v sv:Value}(hs:a.eval s=v)(hx:a.eval x=sv)(hbase:base<=w.heap.size)
  {n:Nat}{xs:List Value}(hown:w.ownsRow base e size v n xs){m:Nat}{news:List Value}(hsrc:SlC w size sv m news)
  (h63:n+m<=maxLen)(hb:(n+m)*bytes<=140737488355328)
  (h:∀v' w',w'.ownsRow base e size v' (n+m) (xs++news)->Fr (λb=>v.ownBlock=some b) w w'->(∀b,v'.ownBlock=some b->v.ownBlock=some b\/w.heap.size<=b)->K (a.put o.dst v') w'):
  if Region.wanted o (yielded ops a.tmps)=true then Oper.wp P o a w K Q else E:=by
 have hw:Region.wanted o (yielded ops a.tmps)=true:=by simp[Region.wanted,hgd]
 rw[if_pos hw];exact tX hE s x ho hs hx hbase hown hsrc h63 hb h
end
theorem SlC.at{w:World}{size m:Nat}{v:Value}{news:List Value}(h:SlC w size v m news){k:Nat}(hk:k<m)(hs:0<size):
  ∃b off c,v=.slice (some ⟨b,off,none⟩) m c/\m<=c/\c<=maxLen/\b<w.heap.size/\∀(j:Nat) (u:Value),news[j]?=some u->w.cell? ⟨b,off+j,none⟩=some u:=by
 obtain⟨a,c,rfl,l1,l2,l3,l4,l5⟩:=h;rcases l5 with⟨rfl,rfl⟩|⟨b,off,rfl,hb,hc⟩
 .omega
 .exact⟨b,off,c,rfl,l3,l4,hb,hc⟩
theorem SlC.shape{w:World}{size m:Nat}{v:Value}{news:List Value}(h:SlC w size v m news):∃a c,v=.slice a m c/\m<=c/\c<=maxLen:=by
 obtain⟨a,c,rfl,l1,l2,l3,l4,l5⟩:=h;exact⟨a,c,rfl,l3,l4⟩
def SlK(k:IntKind)(w:World)(v:Value)(l:List Nat):Prop:=SlC w 1 v l.length (l.map λ(x:Nat)=>Value.int k (x:Int))
theorem SlK.nil(k:IntKind)(w:World):SlK k w (.slice none 0 0) []:=SlC.nil w 1
theorem SlK.fr{k:IntKind}{w w':World}{v:Value}{l:List Nat}(h:SlK k w v l){G:Nat->Prop}(f:Fr G w w')(hG:∀b,v.ownBlock=some b->¬G b):SlK k w' v l:=SlC.fr h f hG
theorem SlK.at{k:IntKind}{w:World}{v:Value}{l:List Nat}(h:SlK k w v l){i:Nat}(hi:i<l.length):
  ∃b off c,v=.slice (some ⟨b,off,none⟩) l.length c/\l.length<=c/\c<=maxLen/\b<w.heap.size/\w.cell? ⟨b,off+i,none⟩=some (.int k (l[i]:Nat)):=by
 obtain⟨b,off,c,e,h1,h2,h3,h4⟩:=SlC.at h hi (by omega);exact⟨b,off,c,e,h1,h2,h3,h4 i _ (by simp[hi])⟩
theorem SlK.shape{k:IntKind}{w:World}{v:Value}{l:List Nat}(h:SlK k w v l):∃a c,v=.slice a l.length c/\l.length<=c/\c<=maxLen:=SlC.shape h
def OwK(k:IntKind)(base:Nat)(e:TypeId)(w:World)(v:Value)(l:List Nat):Prop:=w.ownsRow base e 1 v l.length (l.map λ(x:Nat)=>Value.int k (x:Int))
theorem OwK.sl{k:IntKind}{base:Nat}{e:TypeId}{w:World}{v:Value}{l:List Nat}(h:OwK k base e w v l):SlK k w v l:=
 SlC.ofOwn h (λu hu=>by obtain⟨z,_,rfl⟩:=List.mem_map.1 hu;rfl)
theorem OwK.nil(k:IntKind)(base:Nat)(e:TypeId)(w:World):OwK k base e w (.slice none 0 0) []:=World.ownsRow_nil _ _ _ _
theorem OwK.base{k:IntKind}{base:Nat}{e:TypeId}{w:World}{v:Value}{l:List Nat}(h:OwK k base e w v l):∀b,v.ownBlock=some b->base<=b:=aj h
def bF(ev:Nat->Bool)(i:Nat):Value:=.bool (ev i)
theorem sS(ev:Nat->Bool)(i:Nat)(v:Bool):upd (bF ev) i (.bool v)=bF (upd ev i v):=by
 funext j
 by_cases e:j=i
 .subst e;simp[upd_same,bF]
 .rw[aa _ _ e];simp[bF,aa _ _ e]
theorem du{z:Array Value}{N i:Nat}(hi:i<N):(madeCells z N)[i]?=some z[i%z.size]!:=by
 unfold madeCells;rw[Array.getElem?_map,Array.getElem?_range,if_pos hi];rfl
structure Cl where
 kind:Nat
 frame:Nat
 page:Nat
 on:Bool
 want:Int
 size:Nat
 ghosts:List Nat
structure Pol(σ:Type) where
 miss:σ->Nat->σ
 access:σ->Nat->Nat->σ
 set:σ->Nat->Bool->σ
 victim:σ->Nat->Option Nat
 gone:σ->Nat->σ
 remove:σ->Nat->σ
 size:σ->Nat
 ghosts:σ->List Nat
section
variable{σ:Type}(P:Pol σ)
def Aq(id:Nat):Cl:=⟨0,0,id,false,0,0,[]⟩
def Ea(a id:Nat):Cl:=⟨1,a,id,false,0,0,[]⟩
def yC(a:Nat)(v:Bool):Cl:=⟨2,a,0,v,0,0,[]⟩
def DX(id:Nat)(w:Int):Cl:=⟨3,0,id,false,w,0,[]⟩
def DQ(a:Nat):Cl:=⟨4,a,0,false,0,0,[]⟩
end
end
section
open Go.Proofs.Tryz Go.RowKit
theorem bq{P:Program}{e:TypeId}{z:Value}{s b:Nat}(h:(P.info? e).map (λi=>(i.zero,i.size,i.bytes))=some (some z,s,b)):∃i,P.info? e=some i/\i.zero=some z/\i.size=s/\i.bytes=b:=by
 cases hi:P.info? e with
 |none=>rw[hi]at h;cases h
 |some i=>
  rw[hi]at h;simp only[Option.map_some,Option.some.injEq,Prod.mk.injEq]at h;exact⟨i,rfl,h⟩
theorem EI.mk'{P:Program}{t e:TypeId}{z:Value}{s b:Nat}(ht:P.underlying t=some (.slice e))(h:(P.info? e).map (λi=>(i.zero,i.size,i.bytes))=some (some z,s,b))(hz:z.cells.size=s)(hs:0<s):EI P t e s b:=by
 obtain⟨i,h1,h2,h3,h4⟩:=bq h;exact⟨ht,i,z,h1,h2,h3,h4,hz,hs⟩
theorem mkN{P:Program}{t e:TypeId}{z:Value}{cs:Array Value}{s b k:Nat}(hu:P.underlying t=some (.slice e))(h:(P.info? e).map (λi=>(i.zero,i.size,i.bytes))=some (some z,s,b))(hc:z.cells=cs)(n:Nat)(hn:b*n<=200000000000/\n<=200000000000)(hk:n*s=k):
  ∀w:World,(Instr.makeSlice t (.int .i64 (n:Int)) (.int .i64 (n:Int))).run P w=.ok (.slice (some ⟨w.heap.size,0,none⟩) n n) (w.alloc (.cells (madeCells cs k) e)):=by
 intro w;obtain⟨i0,hi,hz,hs,hb⟩:=bq h;have:=run_make (P:=P) w t e i0 _ hu hi hz .i64 .i64 (n:Int) (n:Int) (by omega) (Int.le_refl _) (by rw[hb];have:((b*n:Nat):Int)=(b:Int)*n:=Int.natCast_mul ..;omega) (by omega);rw[show((n:Int)).toNat=n from by omega,hs,hk,hc]at this;exact this
theorem mkU(n:Nat)(hn:n<=1000000):∀w:World,(Instr.makeSlice 51 (.int .i64 (n:Int)) (.int .i64 (n:Int))).run prog w=.ok (.slice (some ⟨w.heap.size,0,none⟩) n n) (w.alloc (.cells (madeCells #[.int .u32 0] n) 34)):=
 mkN (z:=.int .u32 0) (b:=4) underlying51 (by kernel_rfl) rfl n (by omega) (Nat.mul_one n)
theorem mkB(n:Nat)(hn:n<=1000000):∀w:World,(Instr.makeSlice 102 (.int .i64 (n:Int)) (.int .i64 (n:Int))).run prog w=.ok (.slice (some ⟨w.heap.size,0,none⟩) n n) (w.alloc (.cells (madeCells #[.bool false] n) 4)):=
 mkN (z:=.bool false) (b:=1) underlying102 (by kernel_rfl) rfl n (by omega) (Nat.mul_one n)
theorem EIi:EI prog 157 3 1 8:=EI.mk' (z:=.int .i64 0) underlying157 (by kernel_rfl) rfl (by decide)
theorem EIu:EI prog 51 34 1 4:=EI.mk' (z:=.int .u32 0) underlying51 (by kernel_rfl) rfl (by decide)
def ac(l:List Nat)(x:Nat):List Nat:=l.filter λy=>!decide (y=x)
theorem OwK.snoc{k:IntKind}{base:Nat}{e:TypeId}{w:World}{v:Value}{l:List Nat}{y:Nat}(h:w.ownsRow base e 1 v (l.length+1) ((l.map λ(x:Nat)=>Value.int k (x:Int))++[Value.int k (y:Int)])):OwK k base e w v (l++[y]):=by
 unfold OwK;simpa using h
structure ya{τ:Type}(P:Pol τ)(CR:World->τ->(Nat->Prop)->Prop)(b:Nat)(pre:τ->Cl->Prop)(fM fA fS fV fR:FuncId):Prop where
 fr:∀{w w':World} {s:τ} {F G:Nat->Prop},CR w s F->Fr G w w'->(∀i,F i->¬G i)->CR w' s F
 lt:∀{w:World} {s:τ} {F:Nat->Prop},CR w s F->∀i,F i->i<w.heap.size
 miss:∀{w:World} {s:τ} {F:Nat->Prop} {c:Cl},CR w s F->pre s c->c.kind=0->
  Calls prog fM #[.pointer (some ⟨b,0,none⟩),.int .u32 c.page] w λe w'=>e=.returned (.tuple #[])/\∃F',CR w' (P.miss s c.page) F'/\Fr F w w'/\∀i,F' i->F i\/w.heap.size<=i
 access:∀{w:World} {s:τ} {F:Nat->Prop} {c:Cl},CR w s F->pre s c->c.kind=1->
  Calls prog fA #[.pointer (some ⟨b,0,none⟩),.int .i64 c.frame,.int .u32 c.page] w λe w'=>e=.returned (.tuple #[])/\∃F',CR w' (P.access s c.frame c.page) F'/\Fr F w w'/\∀i,F' i->F i\/w.heap.size<=i
 set:∀{w:World} {s:τ} {F:Nat->Prop} {c:Cl},CR w s F->pre s c->c.kind=2->
  Calls prog fS #[.pointer (some ⟨b,0,none⟩),.int .i64 c.frame,.bool c.on] w λe w'=>e=.returned (.tuple #[])/\∃F',CR w' (P.set s c.frame c.on) F'/\Fr F w w'/\∀i,F' i->F i\/w.heap.size<=i
 victimNo:∀{w:World} {s:τ} {F:Nat->Prop} {c:Cl},CR w s F->pre s c->c.kind=3->P.victim s c.page=none->
  Calls prog fV #[.pointer (some ⟨b,0,none⟩),.int .u32 c.page] w λe w'=>e=.returned (.tuple #[.int .i64 0,.bool false])/\∃F',CR w' s F'/\Fr F w w'/\∀i,F' i->F i\/w.heap.size<=i
 victimYes:∀{w:World} {s:τ} {F:Nat->Prop} {c:Cl} {a:Nat},CR w s F->pre s c->c.kind=3->P.victim s c.page=some a->
  Calls prog fV #[.pointer (some ⟨b,0,none⟩),.int .u32 c.page] w λe w'=>e=.returned (.tuple #[.int .i64 a,.bool true])/\∃F',CR w' (P.gone s c.page) F'/\Fr F w w'/\∀i,F' i->F i\/w.heap.size<=i
 remove:∀{w:World} {s:τ} {F:Nat->Prop} {c:Cl},CR w s F->pre s c->c.kind=4->
  Calls prog fR #[.pointer (some ⟨b,0,none⟩),.int .i64 c.frame] w λe w'=>e=.returned (.tuple #[])/\∃F',CR w' (P.remove s c.frame) F'/\Fr F w w'/\∀i,F' i->F i\/w.heap.size<=i
end
end Go.Proofs.YtoenclhimbpfeaaGreatDoor
