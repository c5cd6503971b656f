/- Part 2. -/
import Derived.Test.YtcccbdnojlmgaaaK01
import Derived.Test.YtcccbdnojlmgaaaRows
import Derived.Handy
import Derived.Lib.Hide
import Derived.Deep.LoopGhost
import Derived.WalkSpells
namespace Go.Proofs.Ytcccbdnojlmgaaa
set_option linter.all false
set_option maxHeartbeats 16000000
set_option maxRecDepth 100000
section
open Go.Maps Go.RowKit
def rdV(v:Value):Option (DataW Value×List MemPlace):=some (.held v,[])
def updV(m:Int->Option Value)(x:Int)(y:Option Value):Int->Option Value:=fun z=>if z=x then y else m z
theorem updV_same(m:Int->Option Value)(x:Int)(y:Option Value):updV m x y x=y:=by simp[updV]
theorem updV_other(m:Int->Option Value){x z:Int}(y:Option Value)(h:¬z=x):updV m x y z=m z:=by simp[updV,h]
structure MV(P:Program)(t k e:TypeId)(kq:IntKind)(z0:Value):Prop where
 ut:P.underlying t=some (.map k e)
 uk:P.underlying k=some (.int kq)
 z:∀w:World,(zeroValue e).run P w=.ok z0 w
def SeesV(kq:IntKind)(z0:Value)(D:DataW Value)(m:Int->Option Value):Prop:=∀x,(Lit.int kq x).wf=true->(m x=none->Maps.has D (.int kq x)=false)∧∀y,m x=some y->Maps.has D (.int kq x)=true∧D.atKey (.int kq x) (.held z0)=.held y
def MpV(P:Program)(k:TypeId)(kq:IntKind)(z0:Value)(w:World)(b c:Nat)(m:Int->Option Value):Prop:=
 ∃D:DataW Value,w.ownsMap P k rdV b c D∧Maps.size D=c∧SeesV kq z0 D m
section
variable{P:Program}{t k e:TypeId}{kq:IntKind}{z0:Value}{w w':World}{b c:Nat}{m:Int->Option Value}
theorem owns_tightV{R:Value->Option (DataW Value×List MemPlace)}{n:Nat}{D:DataW Value}(h:w.ownsMap P k R b n D):w.ownsMap P k R b (Maps.size D) D:=by
 obtain⟨es,clock,hb,F,hs,rfl⟩:=h;exact⟨es,clock,hb,F,by rw[Maps.size_eq,length_read];exact Nat.le_refl _,rfl⟩
theorem MpV.lt(h:MpV P k kq z0 w b c m):b<w.heap.size:=by obtain⟨D,h,_⟩:=h;exact h.lt
theorem MpV.fr(h:MpV P k kq z0 w b c m){G:Nat->Prop}(f:Fr G w w')(hG:¬G b):MpV P k kq z0 w' b c m:=by
 have hl:=h.lt;obtain⟨D,⟨es,clock,hb,r⟩,r2⟩:=h;exact⟨D,⟨es,clock,by rw[f.block b hl hG];exact hb,r⟩,r2⟩
theorem MpV.ofHeap(h:MpV P k kq z0 w b c m)(e':w'.heap[b]?=w.heap[b]?):MpV P k kq z0 w' b c m:=by
 obtain⟨D,⟨es,clock,hb,r⟩,r2⟩:=h;exact⟨D,⟨es,clock,by rw[e'];exact hb,r⟩,r2⟩
theorem MpV.alloc(h:MpV P k kq z0 w b c m)(o:Obj):MpV P k kq z0 (w.alloc o) b c m:=h.ofHeap (Below.heap_alloc w o b h.lt)
theorem MpV.made(P:Program)(k:TypeId)(kq:IntKind)(z0:Value)(w:World):MpV P k kq z0 (w.alloc (.map #[] 0)) w.heap.size 0 (fun _=>none):=
 ⟨.map [],World.ownsMap_made w P k _,rfl,fun x _=>⟨fun _=>rfl,fun y q=>(by cases q)⟩⟩
theorem MpV.put_of{D:DataW Value}(M:MV P t k e kq z0){n:Nat}{x:Int}{y:Value}(h:w'.ownsMap P k rdV b n (D.put (.int kq x) (.held y)))(ht:Tidy D)(hs:Maps.size D=c)(hv:SeesV kq z0 D m)(hx:(Lit.int kq x).wf=true):
  MpV P k kq z0 w' b (if(m x).isSome then c else c+1) (updV m x (some y)):=by
 have hsz:=size_put (k:=.int kq x) ht (.held y)
 have hh:Maps.has D (.int kq x)=(m x).isSome:=by
  cases em:m x with
  |none=>exact(hv x hx).1 em
  |some z=>exact((hv x hx).2 z em).1
 rw[hs,hh]at hsz;refine⟨_,by rw[<-hsz];exact owns_tightV h,hsz,fun z hz=>?_⟩;by_cases e1:z=x
 .subst e1
  rw[updV_same];exact⟨fun q=>(by cases q),fun y' q=>by cases q;exact⟨has_put_same ht.isMap keyLit _,atKey_put_same ht.isMap keyLit _ _⟩⟩
 .rw[updV_other _ _ e1]
  have ne:Lit.int kq z≠Lit.int kq x:=fun q=>e1 (by cases q;rfl)
  rw[has_put_other ne,atKey_put_other ne];exact hv z hz
theorem MpV.del_of{D:DataW Value}(M:MV P t k e kq z0){n:Nat}{x:Int}(h:w'.ownsMap P k rdV b n (D.del (.int kq x)))(ht:Tidy D)(hs:Maps.size D=c)(hv:SeesV kq z0 D m)(hx:(Lit.int kq x).wf=true):
  MpV P k kq z0 w' b (if(m x).isSome then c-1 else c) (updV m x none):=by
 have hsz:=size_del (k:=.int kq x) ht
 have hh:Maps.has D (.int kq x)=(m x).isSome:=by
  cases em:m x with
  |none=>exact(hv x hx).1 em
  |some z=>exact((hv x hx).2 z em).1
 rw[hs,hh]at hsz
 have hsz':Maps.size (D.del (.int kq x))=if(m x).isSome then c-1 else c:=by
  split at hsz
  .rename_i q;rw[if_pos q];omega
  .rename_i q;rw[if_neg q];omega
 refine⟨_,by rw[<-hsz'];exact owns_tightV h,hsz',fun z hz=>?_⟩;by_cases e1:z=x
 .subst e1
  rw[updV_same];exact⟨fun _=>has_del_same,fun y' q=>(by cases q)⟩
 .rw[updV_other _ _ e1]
  have ne:Lit.int kq z≠Lit.int kq x:=fun q=>e1 (by cases q;rfl)
  rw[has_del_other ne,atKey_del_other ne];exact hv z hz
theorem MpV.sees(h:MpV P k kq z0 w b c m):∃D:DataW Value,w.ownsMap P k rdV b c D∧∀x,(Lit.int kq x).wf=true->Maps.has D (.int kq x)=(m x).isSome∧D.atKey (.int kq x) (.held z0)=.held ((m x).getD z0):=by
 obtain⟨D,h1,h2,h3⟩:=h;refine⟨D,h1,fun x hx=>?_⟩
 cases em:m x with
 |none=>have:=(h3 x hx).1 em;exact⟨this,by rw[atKey_of_not_has this];rfl⟩
 |some z=>exact(h3 x hx).2 z em
theorem MpV.look_run(M:MV P t k e kq z0)(h:MpV P k kq z0 w b c m){x:Int}(hx:(Lit.int kq x).wf=true):(Instr.lookup t (.map (some b)) (.int kq x) false).run P w=.ok ((m x).getD z0) w:=by
 have hh:=h;obtain⟨D,h1,h2⟩:=h.sees;obtain⟨q1,q2⟩:=h2 x hx;obtain⟨es,clock,hb,F,_,rfl⟩:=h1;rcases Maps.fit_look false (int_keyed M.uk) M.ut (M.z w) hb F (keyOf_int_mk M.uk hx)with⟨hrun,_,hat⟩|⟨e0,y,_,_,hrun,hRv,hat,_⟩
 .rw[hat (.held z0)]at q2
  simp only[DataW.held.injEq]at q2;rw[<-q2];exact hrun
 .rw[hat (.held z0)]at q2
  simp only[rdV,Option.some.injEq]at hRv;rw[<-hRv]at q2;simp only[DataW.held.injEq]at q2;rw[<-q2];exact hrun
theorem MpV.put_run(M:MV P t k e kq z0)(h:MpV P k kq z0 w b c m)(hc:c<1000000){x:Int}(hx:(Lit.int kq x).wf=true)(y:Value):
  ∃w',(Instr.mapUpdate t (.map (some b)) (.int kq x) y).run P w=.ok () w'∧MpV P k kq z0 w' b (if(m x).isSome then c else c+1) (updV m x (some y))∧Fr (fun i=>i=b) w w':=by
 obtain⟨D,h1,h2,h3⟩:=h;have K:=int_keyed M.uk;obtain⟨w',r1,r2,r3⟩:=h1.store K M.ut (by unfold maxLen;omega) (keyOf_int_mk M.uk hx) (val:=y) (d:=.held y) (ps:=[]) rfl;exact⟨w',r1,MpV.put_of M r2 (h1.tidy K) h2 h3 hx,turned_fr r3⟩
theorem MpV.del_run(M:MV P t k e kq z0)(h:MpV P k kq z0 w b c m){x:Int}(hx:(Lit.int kq x).wf=true)(ty:TypeId):
  ∃w',(Builtin.delete_ #[t,k] ty #[.map (some b),.int kq x]).run P w=.ok (.tuple #[]) w'∧MpV P k kq z0 w' b (if(m x).isSome then c-1 else c) (updV m x none)∧Fr (fun i=>i=b) w w':=by
 obtain⟨D,h1,h2,h3⟩:=h;have K:=int_keyed M.uk;obtain⟨w',r,q1,q2⟩:=h1.drop K M.ut (keyOf_int_mk M.uk hx) ty;exact⟨w',r,MpV.del_of M q1 (h1.tidy K) h2 h3 hx,turned_fr q2⟩
variable{ops:Array Oper}{rest:List Oper}{o:Oper}{a:Act}{Q:Exit->Act->World->Prop}
theorem wp_delV(M:MV P t k e kq z0)(h:MpV P k kq z0 w b c m)(hg:o.guard=none)(mo xo:Operand)(hop:o.op=Op.call {callee:=Callee.builtin Builtin.delete,args:=#[mo,xo],argTypes:=#[t,k]})(hm:a.eval mo=.map (some b)){x:Int}(hx:a.eval xo=.int kq x)(hw:(Lit.int kq x).wf=true)
  (hK:∀w',MpV P k kq z0 w' b (if(m x).isSome then c-1 else c) (updV m x none)->Fr (fun i=>i=b) w w'->wpList P ops Q rest (a.put o.dst (.tuple #[])) w'):wpList P ops Q (o::rest) a w:=by
 obtain⟨w',hrun,h1,h2⟩:=h.del_run M hw o.type;refine wpList_plain hg fun K' hK'=>?_
 unfold Oper.wp;simp[execOp,hop,resolve,invoke,builtin,hm,hx,hrun,Result.andThen];exact hK' _ _ (hK _ h1 h2)
end
end
section
open Go.RowKit
def SlF(w:World)(e:TypeId)(size:Nat)(v:Value)(n:Nat)(c:Nat->Value):Prop:=w.ownsRow 0 e size v n ((List.range (n*size)).map c)
section
variable{w w':World}{e:TypeId}{size n:Nat}{v:Value}{c:Nat->Value}
theorem SlF.nil(w:World)(e:TypeId)(size:Nat)(c:Nat->Value):SlF w e size (.slice none 0 0) 0 c:=by
 unfold SlF;rw[Nat.zero_mul];exact World.ownsRow_nil _ _ _ _
theorem SlF.congr(h:SlF w e size v n c){c':Nat->Value}(hc:∀i,i<n*size->c i=c' i):SlF w e size v n c':=by
 unfold SlF at*;have:(List.range (n*size)).map c=(List.range (n*size)).map c':=List.map_congr_left (fun i hi=>hc i (List.mem_range.1 hi));rw[<-this];exact h
theorem SlF.fr(h:SlF w e size v n c){G:Nat->Prop}(f:Fr G w w')(hG:∀b,v.ownBlock=some b->¬G b):SlF w' e size v n c:=own_keep h f hG
theorem SlF.fr0(h:SlF w e size v n c)(f:Fr NoF w w'):SlF w' e size v n c:=own_keep h f (fun _ _ q=>q)
theorem SlF.lt(h:SlF w e size v n c):∀b,v.ownBlock=some b->b<w.heap.size:=fun b hb=>(World.ownsRow.lt h b hb).2
theorem SlF.shape(h:SlF w e size v n c):∃a cap,v=.slice a n cap∧n<=cap∧cap<=maxLen:=by
 obtain⟨hl,h2⟩:=h;rcases h2 with⟨rfl,rfl⟩|⟨g,cap,cur,rfl,hg,hh,h3,h4,h5,h6⟩
 .exact⟨none,0,rfl,Nat.le_refl _,by unfold maxLen;omega⟩
 .exact⟨_,cap,rfl,h3,h4⟩
theorem SlF.at(h:SlF w e size v n c)(hn:0<n):∃g cap,v=.slice (some ⟨g,0,none⟩) n cap∧n<=cap∧cap<=maxLen∧g<w.heap.size∧(∀i,w.frozen? ⟨g,i,none⟩=false)∧(∀i,i<n*size->w.cell? ⟨g,i,none⟩=some (c i)):=by
 have hlt:=h.lt;obtain⟨hl,h2⟩:=h;rcases h2 with⟨rfl,rfl⟩|⟨g,cap,cur,rfl,hg,hh,h3,h4,h5,h6⟩
 .omega
 .refine⟨g,cap,rfl,h3,h4,hlt g rfl,fun i=>by simp[World.frozen?,hh],fun i hi=>?_⟩
  have:((List.range (n*size)).map c)[i]?=some (c i):=by simp[hi]
  rw[<-h6,List.getElem?_take,if_pos (by simpa using hi)]at this;simpa[World.cell?,hh]using this
theorem SlF.set{g cap:Nat}(h:SlF w e size (.slice (some ⟨g,0,none⟩) n cap) n c){i:Nat}(hi:i<n*size)(u:Value):SlF (w.setCell ⟨g,i,none⟩ u) e size (.slice (some ⟨g,0,none⟩) n cap) n (upd c i u):=by
 obtain⟨hl,h2⟩:=h;refine⟨by simp,.inr ?_⟩;rcases h2 with⟨h2,_⟩|⟨g',cap',cur,h2,hg,hh,h3,h4,h5,h6⟩
 .cases h2
 .simp only[Value.slice.injEq,Option.some.injEq,Addr.mk.injEq]at h2
  obtain⟨⟨rfl,_⟩,_,rfl⟩:=h2;refine⟨g,cap,cur.setIfInBounds i u,rfl,Nat.zero_le _,?_,h3,h4,by simp[h5],?_⟩
  .simp[World.setCell,Array.getElem?_modify,hh]
  .apply List.ext_getElem?
   intro j;rw[List.getElem?_take];by_cases hj:j<n*size
   .have h7:((List.range (n*size)).map c)[j]?=some (c j):=by simp[hj]
    rw[<-h6,List.getElem?_take,if_pos (by simpa using hj)]at h7;rw[if_pos (by simpa using hj)];have h8:((List.range (n*size)).map (upd c i u))[j]?=some (upd c i u j):=by simp[hj]
    rw[h8,Array.toList_setIfInBounds,List.getElem?_set];by_cases e1:i=j
    .subst e1
     have hlen:i<cur.toList.length:=(List.getElem?_eq_some_iff.1 h7).1;rw[if_pos rfl,if_pos hlen,upd_same]
    .rw[if_neg e1,h7,upd_other _ _ (fun q=>e1 q.symm)]
   .rw[if_neg (by simpa using hj)]
    simp[Nat.le_of_not_lt hj]
theorem SlF.cut{a:Option Addr}{cap:Nat}(h:SlF w e size (.slice a n cap) n c){m:Nat}(hm:m<=n):SlF w e size (.slice a m cap) m c:=by
 obtain⟨hl,h2⟩:=h;refine⟨by simp,?_⟩;rcases h2 with⟨h2,h3⟩|⟨g',cap',cur,h2,hg,hh,h3,h4,h5,h6⟩
 .simp only[Value.slice.injEq]at h2
  obtain⟨rfl,rfl,rfl⟩:=h2
  left
  have:m=0:=by omega
  subst this;exact⟨rfl,rfl⟩
 .simp only[Value.slice.injEq]at h2
  obtain⟨rfl,_,rfl⟩:=h2;refine .inr ⟨g',cap,cur,rfl,hg,hh,by omega,h4,h5,?_⟩;have hmn:m*size<=n*size:=Nat.mul_le_mul_right _ hm;apply List.ext_getElem?;intro j;rw[List.getElem?_take];by_cases hj:j<m*size
  .rw[if_pos (by simpa using hj)]
   have h7:((List.range (n*size)).map c)[j]?=some (c j):=by simp[show j<n*size from by omega]
   rw[<-h6,List.getElem?_take,if_pos (by omega)]at h7;rw[h7];simp[hj]
  .rw[if_neg (by simpa using hj)]
   simp[Nat.le_of_not_lt hj]
theorem range_snoc(c:Nat->Value)(k:Nat)(u:Value):(List.range k).map c++[u]=(List.range (k+1)).map (upd c k u):=by
 rw[List.range_succ,List.map_append]
 congr 1
 .apply List.map_congr_left
  intro i hi;rw[upd_other];have:=List.mem_range.1 hi;omega
 .simp[upd_same]
end
theorem info_parts'{P:Program}{e:TypeId}{z:Value}{s b:Nat}(h:(P.info? e).map (fun i=>(i.zero,i.size,i.bytes))=some (some z,s,b)):∃i,P.info? e=some i∧i.zero=some z∧i.size=s∧i.bytes=b:=by
 cases hi:P.info? e with
 |none=>rw[hi]at h;cases h
 |some i=>
  rw[hi]at h;simp only[Option.map_some,Option.some.injEq,Prod.mk.injEq]at h;exact⟨i,rfl,h⟩
theorem EI.mk'{P:Program}{t e:TypeId}{z:Value}{s b:Nat}(ht:P.underlying t=some (.slice e))(h:(P.info? e).map (fun i=>(i.zero,i.size,i.bytes))=some (some z,s,b))(hz:z.cells.size=s)(hs:0<s):EI P t e s b:=by
 obtain⟨i,h1,h2,h3,h4⟩:=info_parts' h;exact⟨ht,i,z,h1,h2,h3,h4,hz,hs⟩
theorem EIu:EI Try.prog 36 35 1 4:=EI.mk' (z:=.int .u32 0) Try.underlying36 (by kernel_rfl) rfl (by decide)
def awayN(l:List Nat)(x:Nat):List Nat:=l.filter fun y=>!decide (y=x)
theorem awayN_snoc(x:Nat)(l:List Nat)(y:Nat):awayN (l++[y]) x=if y=x then awayN l x else awayN l x++[y]:=by
 unfold awayN;rw[List.filter_append]
 split
 .rename_i h;simp[h]
 .rename_i h;simp[h]
theorem awayN_le(x:Nat)(l:List Nat):(awayN l x).length<=l.length:=List.length_filter_le _ _
theorem OwK.snoc{k:IntKind}{base:Nat}{e:TypeId}{w:World}{v:Value}{l:List Nat}{y:Nat}(h:w.ownsRow base e 1 v (l.length+1) ((l.map fun(x:Nat)=>Value.int k (x:Int))++[Value.int k (y:Int)])):OwK k base e w v (l++[y]):=by
 unfold OwK;simpa using h
theorem OwK.len{k:IntKind}{base:Nat}{e:TypeId}{w:World}{v:Value}{l:List Nat}(h:OwK k base e w v l):l.length<=maxLen:=SlC.len h.sl
theorem WithoutPage_calls{w:World}{v:Value}{l:List Nat}(h:SlK .u32 w v l)(hl:l.length<1000000)(x:Nat):
  Calls Try.prog 44 #[v,.int .u32 x] w fun e w'=>∃v',e=.returned (.tuple #[v',.bool (decide (x∈l))])∧OwK .u32 w.heap.size 35 w' v' (awayN l x)∧Fr NoF w w':=by
 obtain⟨a,c,rfl,q1,q2⟩:=h.shape;unfold maxLen at q2;have HS:=Lib.hid h;clear h;go_enter Try.func44,Try.ntmps44;go_wp2
 go_loopw [6,7] (fun o i wr=>∃k:Nat,k<=l.length∧i=.int .i64 k∧OwK .u32 w.heap.size 35 wr o (awayN (l.take k) x)∧Fr NoF w wr) (fun _ i _=>l.length-(intOf i).toNat)
 case atStart=>exact⟨0,Nat.zero_le _,rfl,OwK.nil _ _ _ _,Fr.refl _ _⟩
 case round=>
  obtain⟨k,hk,rfl,ho,hf⟩:=hrel;have HO:=Lib.hid ho;have HF:=Lib.hid hf;by_cases hlt:k<l.length
  .obtain⟨b,off,c',ev',_,_,hb,cy⟩:=(HS.out.keep hf).at hlt
   simp only[Value.slice.injEq]at ev';obtain⟨rfl,_,rfl⟩:=ev';have HT:=Lib.hid (List.take_succ_eq_append_getElem hlt);have HB:=awayN_le x (l.take k);rw[List.length_take]at HB;have hN:=awayN_snoc x (l.take k) l[k];generalize l[k]=y at cy HT hN;have hsz:=hf.size;by_cases hyx:y=x
   .rw[if_pos hyx]at hN
    have HN:=Lib.hid hN;have he:((y:Int) !=(x:Int))=false:=by simp[hyx]
    clear hyx hN ho hf HB;go_wp2
    go_roundw
    case rel=>exact⟨k+1,by omega,by go_num,by rw[HT.out,HN.out];exact HO.out,HF.out⟩
    case measure=>simp[intOf];omega
   .rw[if_neg hyx]at hN
    have HN:=Lib.hid hN;have he:((y:Int) !=(x:Int))=true:=by simp;omega
    clear hyx hN ho hf;generalize awayN (l.take k) x=m at*
    go_wp2_with(at_builtin;go_must(refine appLB (base:=w.heap.size) EIu rfl _ _ rfl (by rfl) (by rfl) (by simp;omega) (own_keep HO.out ((Fr.refl NoF _).alloc _) (fun _ _ q=>q)) (SlC.ofOwn (own_new (w0:=wr) (Nat.le_refl _) #[.int .u32 y] 35 1 1 _ rfl rfl (by unfold maxLen;omega)) (by simp[Value.oneCell'])) (by unfold maxLen;omega) (by omega) ?_);intro v' w2 hown' hf' _;have HF':=Lib.hid hf';have HO':=Lib.hid hown';clear cy hf' hown')
    go_roundw
    case rel=>
     refine⟨k+1,by omega,by go_num,?_,?_⟩
     .rw[HT.out,HN.out];exact OwK.snoc HO'.out
     .refine(HF.out.alloc _).trans HF'.out (fun i hi=>.inr ?_)
      exact HO.out.base i hi
    case measure=>simp[intOf];omega
  .obtain rfl:k=l.length:=by omega
   rw[List.take_length]at HO;clear ho hf;obtain⟨a2,c2,rfl,_,_⟩:=HO.out.sl.shape
   have hd:decide ((awayN l x).length<l.length)=decide (x∈l):=by
    rw[decide_eq_decide];unfold awayN;constructor
    .intro hh
     apply Decidable.byContradiction;intro hn;rw[List.filter_eq_self.2 (fun y hy=>by have:¬y=x:=fun e=>hn (e▸hy);simp[this])]at hh;omega
    .intro hm
     refine List.length_filter_lt_length_iff_exists.2 ⟨x,hm,by simp⟩
   have HD:=Lib.hid hd;clear hd;go_wp2;go_returns;exact⟨.slice a2 (awayN l x).length c2,by rw[HD.out];rfl,HO.out,HF.out⟩
def fstI(o:Option Nat):Int:=match o with|none=> -1|some k=>k
theorem away_perm{a b:List Nat}{x:Nat}(h:(x::a).Perm b)(hn:b.Nodup):a.Perm (awayN b x)∧(awayN b x).Nodup:=by
 have hn':(x::a).Nodup:=h.nodup_iff.2 hn;have hx:=(List.nodup_cons.1 hn').1;have h2:=h.filter (fun y=>!decide (y=x))
 have e:(x::a).filter (fun y=>!decide (y=x))=a:=by
  rw[List.filter_cons];simp only[decide_true,Bool.not_true,Bool.false_eq_true,if_false];rw[List.filter_eq_self];intro y hy;have:¬y=x:=fun e=>hx (e▸hy)
  simp[this]
 rw[e]at h2;exact⟨h2,hn.filter _⟩
theorem SamePages_calls{w:World}{va vb:Value}{a b:List Nat}(ha:SlK .u32 w va a)(hb:SlK .u32 w vb b)(hl:a.length<1000000)(hp:a.Perm b)(hn:b.Nodup):
  Calls Try.prog 26 #[va,vb] w fun e w'=>e=.returned (.bool true)∧Fr NoF w w':=by
 obtain⟨aa,ca,rfl,q1,q2⟩:=ha.shape;obtain⟨ab,cb,rfl,q3,q4⟩:=hb.shape;unfold maxLen at q2 q4;have HA:=Lib.hid ha;have HB:=Lib.hid hb;have hlen:=hp.length_eq;have hne:((a.length:Int) !=(b.length:Int))=false:=by simp;omega
 have HP:=Lib.hid hp;have HN:=Lib.hid hn;have HL:=Lib.hid hlen;clear ha hb hp hn hlen;go_enter Try.func26,Try.ntmps26;go_wp2
 go_loopw [1,5] (fun v i wr=>∃(k:Nat) (r:List Nat),k<=a.length∧i=.int .i64 k∧SlK .u32 wr v r∧(a.drop k).Perm r∧r.Nodup∧Fr NoF w wr) (fun _ i _=>a.length-(intOf i).toNat)
 case atStart=>exact⟨0,b,Nat.zero_le _,rfl,HB.out,by simpa using HP.out,HN.out,Fr.refl _ _⟩
 case round=>
  obtain⟨k,r,hk,rfl,hr,hpr,hnr,hf⟩:=hrel;obtain⟨ar,cr,rfl,q5,q6⟩:=hr.shape;unfold maxLen at q6;have HR:=Lib.hid hr;have HF:=Lib.hid hf;by_cases hlt:k<a.length
  .obtain⟨bk,off,c',ev',_,_,hbl,cy⟩:=(HA.out.keep hf).at hlt
   simp only[Value.slice.injEq]at ev';obtain⟨rfl,_,rfl⟩:=ev';have hD:a.drop k=a[k]::a.drop (k+1):=List.drop_eq_getElem_cons hlt;rw[hD]at hpr;have hlr:=hpr.length_eq;rw[<-hD,List.length_drop]at hlr;have hin:a[k]∈r:=hpr.mem_iff.1 (List.mem_cons_self ..);obtain⟨g1,g2⟩:=away_perm hpr hnr;have HC:=WithoutPage_calls hr (by omega) a[k];rw[show decide (a[k]∈r)=true from by simp[hin]]at HC;have HC':=Lib.hid HC;have HG:=Lib.hid (And.intro g1 g2);generalize a[k]=y at*;clear HC g1 g2 hin hlr hD hpr hnr hr hf
   go_wp2_with fail
   refine HC'.out.mono ?_;clear HC';rintro e w2⟨v',rfl,ho,hf2⟩;have HO:=Lib.hid ho;have HF2:=Lib.hid (HF.out.trans hf2 (fun _ q=>q.elim));clear ho hf2;go_wp2
   go_roundw
   case rel=>exact⟨k+1,_,by omega,by go_num,HO.out.sl,HG.out.1,HG.out.2,HF2.out⟩
   case measure=>simp[intOf];omega
  .obtain rfl:k=a.length:=by omega
   clear hpr hnr hr hf;go_wp2;go_returns;exact⟨rfl,HF.out⟩
end
end Go.Proofs.Ytcccbdnojlmgaaa
