/- Part 7. -/
import Derived.Test.YtoenclhimbpfeaaGreatDoorC06
namespace Go.Proofs.YtoenclhimbpfeaaGreatDoor
set_option linter.all false
set_option maxHeartbeats 16000000
set_option maxRecDepth 100000
section
open Go.Proofs.Tryz Go.RowKit
def belowB(k:Nat):Nat->Bool:=fun y=>decide (y<k)
theorem belowB_zero:belowB 0=noneB:=by funext y;simp[belowB,noneB]
theorem belowB_at(k:Nat):belowB k k=false:=by simp[belowB]
theorem belowB_add(k:Nat):updB (belowB k) k true=belowB (k+1):=by
 funext y
 by_cases e:y=k
 .subst e;rw[updB_same];simp[belowB]
 .rw[updB_other _ _ e];unfold belowB
  by_cases q:y<k
  .simp[q,Nat.lt_succ_of_lt q]
  .have:¬y<k+1:=by omega
   simp[q,this]
theorem cntB_below(k:Nat):∀n,k<=n->cntB (belowB k) n=k
 |0,h=>by obtain rfl:k=0:=by omega
          rfl
 |n+1,h=>by
  unfold cntB;by_cases e:k=n+1
  .have e2:cntB (belowB k) n=n:=by
    rw[cntB_congr (T:=belowB n) n (fun x hx=>by unfold belowB;simp[hx];omega)];exact cntB_below n n (Nat.le_refl _)
   rw[e2];subst e;simp[belowB]
  .rw[cntB_below k n (by omega)]
   have:¬n<k:=by omega
   simp[belowB,this]
def setN(bound:Nat)(n:Int)(v:Value):Nat->Value
 |0=>.int .i64 bound
 |1=>.int .i64 n
 |_=>v
section
variable{w w':World}{b off N bound L:Nat}{c:Nat->Value}{S:Nat->Bool}{v:Value}{h:Nat->Nat}
theorem LC.congr(H:LC w b off N c bound S v h L){c':Nat->Value}(e:∀i,i<N->c i=c' i):LC w b off N c' bound S v h L:=
 ⟨H.blk.congr e,H.inb,by rw[<-e _ (by have:=H.inb;omega)];exact H.c0,by rw[<-e _ (by have:=H.inb;omega)];exact H.c1,by rw[<-e _ (by have:=H.inb;omega)];exact H.c2,H.ls,H.nb⟩
theorem setN_set(bound:Nat)(n m:Int)(v:Value)(i:Nat)(hi:i<3):upd (setN bound n v) (0+1) (.int .i64 m) i=setN bound m v i:=by
 match i,hi with
 |0,_=>rfl
 |1,_=>rfl
 |2,_=>rfl
end
theorem full_calls(bound:Nat)(w:World)(hb0:1<=bound)(hb:bound<=65535):Calls prog 35 #[.int .i64 bound] w fun e w'=>∃v h L,e=.returned (.agg #[.int .i64 bound,.int .i64 bound,v])∧LS w' bound (belowB bound) v h L∧(∀k,LF v h L k->w.heap.size<=k)∧Fr NoF w w':=by
 have HE:Hid (∀W,Calls prog 36 #[.int .i64 bound] W _):=fun W=>empty_calls bound W hb0 hb
 go_enter func35,ntmps35
 go_wp2_with fail
 refine(HE.out _).mono ?_;clear HE;rintro e w1⟨v,h,L,rfl,hls,hnew,hf⟩;obtain⟨g,cap,rfl,g1,g2⟩:=hls.r.shape;have hfs:=hf.size;simp only[World.size_alloc]at hfs
 have B0:Blk w1 w.heap.size 3 (setN 0 0 (.slice none 0 0)):=(Blk.new _ _ _ _ _ _ rfl rfl (fun i hi=>by
  match i,hi with
  |0,_=>rfl
  |1,_=>rfl
  |2,_=>rfl)).fr hf id
 have F1:Fr NoF w w1:=((Fr.refl NoF w).alloc _).trans hf (fun _ q=>.inl q)
 have HLA:Hid (LC (w1.alloc (.cells #[.int .i64 bound,.int .i64 0,.slice (some ⟨g,0,none⟩) L cap] 114)) w1.heap.size 0 3 (setN bound 0 (.slice (some ⟨g,0,none⟩) L cap)) bound (belowB 0) (.slice (some ⟨g,0,none⟩) L cap) h L):=by
  refine⟨Blk.new _ _ _ _ _ _ rfl rfl (fun i hi=>by
   match i,hi with
   |0,_=>rfl
   |1,_=>rfl
   |2,_=>rfl),by omega,rfl,by rw[cntB_below 0 bound (by omega)];rfl,rfl,⟨?_,fun x q=>by simp[belowB]at q⟩,fun q=>by have:=hls.r.lt _ q;omega⟩
  rw[belowB_zero];exact hls.r.fr ((Fr.refl NoF w1).alloc _) (fun _ _ q=>q)
 have HB0:=Hd (B0.alloc (.cells #[.int .i64 bound,.int .i64 0,.slice (some ⟨g,0,none⟩) L cap] 114));have HF1:=Hd (F1.alloc (.cells #[.int .i64 bound,.int .i64 0,.slice (some ⟨g,0,none⟩) L cap] 114));have HNEW:=Hd (fun k q=>(show w.heap.size+1<=k from by have:=hnew k q;simpa using this));clear hls hnew hf B0 F1;go_wp2;have hsb:w.heap.size<w1.heap.size:=by omega
 generalize w1.alloc (.cells #[.int .i64 bound,.int .i64 0,.slice (some ⟨g,0,none⟩) L cap] 114)=wA at*;generalize w1.heap.size=sb at*
 go_loopw [8] (fun xv wr=>∃k:Nat,k<=bound∧xv=.int .i64 k∧Hid (LC wr sb 0 3 (setN bound k (.slice (some ⟨g,0,none⟩) L cap)) bound (belowB k) (.slice (some ⟨g,0,none⟩) L cap) h L)∧Hid (Fr (SF sb (.slice (some ⟨g,0,none⟩) L cap) h L) wA wr)) (fun xv _=>bound-(intOf xv).toNat)
 case atStart=>exact⟨0,Nat.zero_le _,rfl,HLA.out,Fr.refl _ _⟩
 case round=>
  obtain⟨k,hk,rfl,HL,HF⟩:=hrel;by_cases hlt:k<bound
  .have HADD:=Hd (add_in HL.out hlt (belowB_at k))
   clear HL
   go_wp2_with fail
   refine HADD.out.mono ?_;clear HADD;rintro e w2⟨rfl,h1,h2⟩
   have HL2:Hid (LC w2 sb 0 3 (setN bound (k+1:Nat) (.slice (some ⟨g,0,none⟩) L cap)) bound (belowB (k+1)) (.slice (some ⟨g,0,none⟩) L cap) h L):=by
    rw[cntB_below k bound hk,belowB_add]at h1;exact h1.congr (fun i hi=>setN_set _ _ _ _ i hi)
   have HF2:=Hd (HF.out.trans h2 (fun _ q=>.inl q));clear h1 h2 HF;go_wp2
   go_roundw
   case rel=>exact⟨k+1,by omega,by go_num,HL2.out,HF2.out⟩
   case measure=>simp[intOf]<;>omega
  .obtain rfl:k=bound:=by omega
   have RB:=HB0.out.fr HF.out (fun q=>by rcases q with q|q;omega;have:=HNEW.out _ q;omega);have HRB:=Hd RB;have s0:wr.cell? ⟨sb,0,none⟩=some (.int .i64 k):=HL.out.blk.cell (i:=0) (by omega);have s1:wr.cell? ⟨sb,1,none⟩=some (.int .i64 k):=HL.out.blk.cell (i:=1) (by omega);have s2:wr.cell? ⟨sb,2,none⟩=some (.slice (some ⟨g,0,none⟩) L cap):=HL.out.blk.cell (i:=2) (by omega);have ls:=HL.out.blk.lt;have t0:wr.cell? ⟨w.heap.size,0,none⟩=some (.int .i64 0):=RB.cell (i:=0) (by omega);have t1:wr.cell? ⟨w.heap.size,1,none⟩=some (.int .i64 0):=RB.cell (i:=1) (by omega);have t2:wr.cell? ⟨w.heap.size,2,none⟩=some (.slice none 0 0):=RB.cell (i:=2) (by omega);have g0:=RB.frozen 0;have g1':=RB.frozen 1;have g2':=RB.frozen 2;have lr:=RB.lt;have hne:¬w.heap.size=sb:=by omega
   clear RB hlt;have HRS:Hid (Blk (((wr.setCell ⟨w.heap.size,0,none⟩ (.int .i64 k)).setCell ⟨w.heap.size,1,none⟩ (.int .i64 k)).setCell ⟨w.heap.size,2,none⟩ (.slice (some ⟨g,0,none⟩) L cap)) w.heap.size 3 (upd (upd (upd (setN 0 0 (.slice none 0 0)) 0 (.int .i64 k)) 1 (.int .i64 k)) 2 (.slice (some ⟨g,0,none⟩) L cap))):=((HRB.out.set 0 _).set 1 _).set 2 _;have F3:Fr (fun i=>i=w.heap.size) wr (((wr.setCell ⟨w.heap.size,0,none⟩ (.int .i64 k)).setCell ⟨w.heap.size,1,none⟩ (.int .i64 k)).setCell ⟨w.heap.size,2,none⟩ (.slice (some ⟨g,0,none⟩) L cap)):=(((Fr.refl (fun i=>i=w.heap.size) wr).setCell (p:=⟨w.heap.size,0,none⟩) (.inl rfl) _).setCell (p:=⟨w.heap.size,1,none⟩) (.inl rfl) _).setCell (p:=⟨w.heap.size,2,none⟩) (.inl rfl) _;have HF3:=Hd F3;clear F3;go_wp2
   (try simp only[Exit.inBlock,Exit.then])
   refine bodyPost_ret (results_blk Tryz.results35 _ _ HRS.out rfl underlying114 rfl (by kernel_rfl)) rfl ?_;refine⟨.slice (some ⟨g,0,none⟩) L cap,h,L,rfl,⟨HL.out.ls.r.fr HF3.out (fun i q e=>by have:=HNEW.out i q;omega),HL.out.ls.dom⟩,fun i q=>by have:=HNEW.out i q;omega,((HF1.out.trans (G:=SF sb (.slice (some ⟨g,0,none⟩) L cap) h L) HF.out (fun i q=>.inr (by rcases q with q|q;omega;have:=HNEW.out i q;omega))).trans (G:=fun i=>i=w.heap.size) HF3.out (fun i q=>.inr (by omega)))⟩
end
section
open Go.Maps Go.RowKit
def updI(m:Int->Option Int)(x:Int)(y:Option Int):Int->Option Int:=fun z=>if z=x then y else m z
theorem updI_same(m:Int->Option Int)(x:Int)(y:Option Int):updI m x y x=y:=by simp[updI]
theorem updI_other(m:Int->Option Int){x z:Int}(y:Option Int)(h:¬z=x):updI m x y z=m z:=by simp[updI,h]
structure MI(P:Program)(t k e:TypeId)(kq eq:IntKind):Prop where
 ut:P.underlying t=some (.map k e)
 uk:P.underlying k=some (.int kq)
 ue:P.underlying e=some (.int eq)
 z:∀w:World,(zeroValue e).run P w=.ok (.int eq 0) w
def Sees(kq eq:IntKind)(D:DataW Unit)(m:Int->Option Int):Prop:=∀x,(Lit.int kq x).wf=true->(m x=none->Maps.has D (.int kq x)=false)∧∀y,m x=some y->Maps.has D (.int kq x)=true∧D.atKey (.int kq x) (.lit (.int eq 0))=.lit (.int eq y)
def MpN(P:Program)(k e:TypeId)(kq eq:IntKind)(w:World)(b c:Nat)(m:Int->Option Int):Prop:=
 ∃D:DataW Unit,w.ownsMap P k (plainElem P e) b c D∧Maps.size D=c∧Sees kq eq D m
section
variable{P:Program}{t k e:TypeId}{kq eq:IntKind}{w w':World}{b c:Nat}{m:Int->Option Int}
theorem owns_tight{R:Value->Option (DataW Unit×List MemPlace)}{n:Nat}{D:DataW Unit}(h:w.ownsMap P k R b n D):w.ownsMap P k R b (Maps.size D) D:=by
 obtain⟨es,clock,hb,F,hs,rfl⟩:=h;exact⟨es,clock,hb,F,by rw[Maps.size_eq,length_read];exact Nat.le_refl _,rfl⟩
theorem MpN.lt(h:MpN P k e kq eq w b c m):b<w.heap.size:=by obtain⟨D,h,_⟩:=h;exact h.lt
theorem MpN.fr(h:MpN P k e kq eq w b c m){G:Nat->Prop}(f:Fr G w w')(hG:¬G b):MpN P k e kq eq w' b c m:=by
 have hl:=h.lt;obtain⟨D,⟨es,clock,hb,r⟩,r2⟩:=h;exact⟨D,⟨es,clock,by rw[f.block b hl hG];exact hb,r⟩,r2⟩
theorem MpN.made(P:Program)(k e:TypeId)(kq eq:IntKind)(w:World):MpN P k e kq eq (w.alloc (.map #[] 0)) w.heap.size 0 (fun _=>none):=
 ⟨.map [],World.ownsMap_made w P k _,rfl,fun x _=>⟨fun _=>rfl,fun y q=>(by cases q)⟩⟩
theorem turned_fr(h:w.mapTurned w' b):Fr (fun i=>i=b) w w':=(Fr.refl _ w).grown h.grown (fun i q=>.inl (by cases q;rfl))
theorem keyLit{x:Int}:WideAt.IsKeyLit (Lit.int kq x):=trivial
theorem MpN.put_of{D:DataW Unit}(M:MI P t k e kq eq){n:Nat}{x y:Int}(h:w'.ownsMap P k (plainElem P e) b n (D.put (.int kq x) (.lit (.int eq y))))(ht:Tidy D)(hs:Maps.size D=c)(hv:Sees kq eq D m)(hx:(Lit.int kq x).wf=true):
  MpN P k e kq eq w' b (if(m x).isSome then c else c+1) (updI m x (some y)):=by
 have hsz:=size_put (k:=.int kq x) ht (.lit (.int eq y))
 have hh:Maps.has D (.int kq x)=(m x).isSome:=by
  cases em:m x with
  |none=>exact(hv x hx).1 em
  |some z=>exact((hv x hx).2 z em).1
 rw[hs,hh]at hsz;refine⟨_,by rw[<-hsz];exact owns_tight h,hsz,fun z hz=>?_⟩;by_cases e1:z=x
 .subst e1
  rw[updI_same];exact⟨fun q=>(by cases q),fun y' q=>by cases q;exact⟨has_put_same ht.isMap keyLit _,atKey_put_same ht.isMap keyLit _ _⟩⟩
 .rw[updI_other _ _ e1]
  have ne:Lit.int kq z≠Lit.int kq x:=fun q=>e1 (by cases q;rfl)
  rw[has_put_other ne,atKey_put_other ne];exact hv z hz
theorem MpN.del_of{D:DataW Unit}{n:Nat}{x:Int}(h:w'.ownsMap P k (plainElem P e) b n (D.del (.int kq x)))(ht:Tidy D)(hs:Maps.size D=c)(hv:Sees kq eq D m)(hx:(Lit.int kq x).wf=true):
  MpN P k e kq eq w' b (if(m x).isSome then c-1 else c) (updI m x none):=by
 have hsz:=size_del (k:=.int kq x) ht
 have hh:Maps.has D (.int kq x)=(m x).isSome:=by
  cases em:m x with
  |none=>exact(hv x hx).1 em
  |some z=>exact((hv x hx).2 z em).1
 rw[hs,hh]at hsz
 have hsz':Maps.size (D.del (.int kq x))=if(m x).isSome then c-1 else c:=by
  split at hsz
  .rename_i q;rw[if_pos q];omega
  .rename_i q;rw[if_neg q];omega
 refine⟨_,by rw[<-hsz'];exact owns_tight h,hsz',fun z hz=>?_⟩;by_cases e1:z=x
 .subst e1
  rw[updI_same];exact⟨fun _=>has_del_same,fun y' q=>(by cases q)⟩
 .rw[updI_other _ _ e1]
  have ne:Lit.int kq z≠Lit.int kq x:=fun q=>e1 (by cases q;rfl)
  rw[has_del_other ne,atKey_del_other ne];exact hv z hz
variable{ops:Array Oper}{rest:List Oper}{o:Oper}{a:Act}{Q:Exit->Act->World->Prop}
theorem wp_lookN(M:MI P t k e kq eq)(h:MpN P k e kq eq w b c m)(hg:o.guard=none)(mo xo:Operand)(hop:o.op=Op.lookup t mo xo true)(hm:a.eval mo=.map (some b)){x:Int}(hx:a.eval xo=.int kq x)(hw:(Lit.int kq x).wf=true)
  (hK:wpList P ops Q rest (a.put o.dst (.tuple #[.int eq ((m x).getD 0),.bool (m x).isSome])) w):wpList P ops Q (o::rest) a w:=by
 obtain⟨D,h1,h2,h3⟩:=h;refine wpList_lookup_own_ok_int w hg mo xo t hop k e eq (int_keyed M.uk) M.ut M.ue (M.z w) b c D hm h1 _ _ hx (keyOf_int_mk M.uk hw) (fun cc hat hwc=>?_)
 have:(Maps.has D (.int kq x))=(m x).isSome∧cc=(m x).getD 0:=by
  cases em:m x with
  |none=>
   have hh:=(h3 x hw).1 em;refine⟨hh,?_⟩;rw[atKey_of_not_has hh]at hat;simpa using hat.symm
  |some z=>
   obtain⟨q1,q2⟩:=(h3 x hw).2 z em;refine⟨q1,?_⟩;rw[q2]at hat;simpa using hat.symm
 rw[this.1,this.2];exact hK
theorem wp_lookN_some(M:MI P t k e kq eq)(h:MpN P k e kq eq w b c m){x y:Int}(hmx:m x=some y)(hg:o.guard=none)(mo xo:Operand)(hop:o.op=Op.lookup t mo xo true)(hm:a.eval mo=.map (some b))(hx:a.eval xo=.int kq x)(hw:(Lit.int kq x).wf=true)
  (hK:wpList P ops Q rest (a.put o.dst (.tuple #[.int eq y,.bool true])) w):wpList P ops Q (o::rest) a w:=
 wp_lookN M h hg mo xo hop hm hx hw (by rw[hmx];exact hK)
theorem wp_lookN_none(M:MI P t k e kq eq)(h:MpN P k e kq eq w b c m){x:Int}(hmx:m x=none)(hg:o.guard=none)(mo xo:Operand)(hop:o.op=Op.lookup t mo xo true)(hm:a.eval mo=.map (some b))(hx:a.eval xo=.int kq x)(hw:(Lit.int kq x).wf=true)
  (hK:wpList P ops Q rest (a.put o.dst (.tuple #[.int eq 0,.bool false])) w):wpList P ops Q (o::rest) a w:=
 wp_lookN M h hg mo xo hop hm hx hw (by rw[hmx];exact hK)
theorem wp_putN(M:MI P t k e kq eq)(h:MpN P k e kq eq w b c m)(hc:c<1000000)(hg:o.guard=none)(mo xo vo:Operand)(hop:o.op=Op.mapUpdate t mo xo vo)(hm:a.eval mo=.map (some b)){x y:Int}(hx:a.eval xo=.int kq x)(hv:a.eval vo=.int eq y)(hw:(Lit.int kq x).wf=true)(hwy:(Lit.int eq y).wf=true)
  (hK:∀w',MpN P k e kq eq w' b (if(m x).isSome then c else c+1) (updI m x (some y))->Fr (fun i=>i=b) w w'->wpList P ops Q rest (a.put o.dst undef) w'):wpList P ops Q (o::rest) a w:=by
 obtain⟨D,h1,h2,h3⟩:=h;refine wpList_mapUpdate_in w hg mo xo vo t hop k e (int_keyed M.uk) M.ut (plainElem P e) b c D hm h1 (by unfold maxLen;omega) _ _ _ hx hv (keyOf_int_mk M.uk hw) _ _ (plainElem_int M.ue hwy) (fun w' h4 h5=>?_);exact hK w' (MpN.put_of M h4 (h1.tidy (int_keyed M.uk)) h2 h3 hw) (turned_fr h5)
theorem wp_delN(M:MI P t k e kq eq)(h:MpN P k e kq eq w b c m)(hg:o.guard=none)(mo xo:Operand)(hop:o.op=Op.call {callee:=Callee.builtin Builtin.delete,args:=#[mo,xo],argTypes:=#[t,k]})(hm:a.eval mo=.map (some b)){x:Int}(hx:a.eval xo=.int kq x)(hw:(Lit.int kq x).wf=true)
  (hK:∀w',MpN P k e kq eq w' b (if(m x).isSome then c-1 else c) (updI m x none)->Fr (fun i=>i=b) w w'->wpList P ops Q rest (a.put o.dst (.tuple #[])) w'):wpList P ops Q (o::rest) a w:=by
 obtain⟨D,h1,h2,h3⟩:=h;refine wpList_delete_own w hg mo xo t k hop e (int_keyed M.uk) M.ut (plainElem P e) b c D hm h1 _ _ hx (keyOf_int_mk M.uk hw) (fun w' h4 h5=>?_);exact hK w' (MpN.del_of h4 (h1.tidy (int_keyed M.uk)) h2 h3 hw) (turned_fr h5)
end
def rdV(v:Value):Option (DataW Value×List MemPlace):=some (.held v,[])
def updV(m:Int->Option Value)(x:Int)(y:Option Value):Int->Option Value:=fun z=>if z=x then y else m z
theorem updV_same(m:Int->Option Value)(x:Int)(y:Option Value):updV m x y x=y:=by simp[updV]
theorem updV_other(m:Int->Option Value){x z:Int}(y:Option Value)(h:¬z=x):updV m x y z=m z:=by simp[updV,h]
structure MV(P:Program)(t k e:TypeId)(kq:IntKind)(z0:Value):Prop where
 ut:P.underlying t=some (.map k e)
 uk:P.underlying k=some (.int kq)
 z:∀w:World,(zeroValue e).run P w=.ok z0 w
def SeesV(kq:IntKind)(z0:Value)(D:DataW Value)(m:Int->Option Value):Prop:=∀x,(Lit.int kq x).wf=true->(m x=none->Maps.has D (.int kq x)=false)∧∀y,m x=some y->Maps.has D (.int kq x)=true∧D.atKey (.int kq x) (.held z0)=.held y
def MpV(P:Program)(k:TypeId)(kq:IntKind)(z0:Value)(w:World)(b c:Nat)(m:Int->Option Value):Prop:=
 ∃D:DataW Value,w.ownsMap P k rdV b c D∧Maps.size D=c∧SeesV kq z0 D m
section
variable{P:Program}{t k e:TypeId}{kq:IntKind}{z0:Value}{w w':World}{b c:Nat}{m:Int->Option Value}
theorem owns_tightV{R:Value->Option (DataW Value×List MemPlace)}{n:Nat}{D:DataW Value}(h:w.ownsMap P k R b n D):w.ownsMap P k R b (Maps.size D) D:=by
 obtain⟨es,clock,hb,F,hs,rfl⟩:=h;exact⟨es,clock,hb,F,by rw[Maps.size_eq,length_read];exact Nat.le_refl _,rfl⟩
theorem MpV.lt(h:MpV P k kq z0 w b c m):b<w.heap.size:=by obtain⟨D,h,_⟩:=h;exact h.lt
theorem MpV.fr(h:MpV P k kq z0 w b c m){G:Nat->Prop}(f:Fr G w w')(hG:¬G b):MpV P k kq z0 w' b c m:=by
 have hl:=h.lt;obtain⟨D,⟨es,clock,hb,r⟩,r2⟩:=h;exact⟨D,⟨es,clock,by rw[f.block b hl hG];exact hb,r⟩,r2⟩
theorem MpV.ofHeap(h:MpV P k kq z0 w b c m)(e':w'.heap[b]?=w.heap[b]?):MpV P k kq z0 w' b c m:=by
 obtain⟨D,⟨es,clock,hb,r⟩,r2⟩:=h;exact⟨D,⟨es,clock,by rw[e'];exact hb,r⟩,r2⟩
theorem MpV.alloc(h:MpV P k kq z0 w b c m)(o:Obj):MpV P k kq z0 (w.alloc o) b c m:=h.ofHeap (Below.heap_alloc w o b h.lt)
theorem MpV.made(P:Program)(k:TypeId)(kq:IntKind)(z0:Value)(w:World):MpV P k kq z0 (w.alloc (.map #[] 0)) w.heap.size 0 (fun _=>none):=
 ⟨.map [],World.ownsMap_made w P k _,rfl,fun x _=>⟨fun _=>rfl,fun y q=>(by cases q)⟩⟩
theorem MpV.put_of{D:DataW Value}(M:MV P t k e kq z0){n:Nat}{x:Int}{y:Value}(h:w'.ownsMap P k rdV b n (D.put (.int kq x) (.held y)))(ht:Tidy D)(hs:Maps.size D=c)(hv:SeesV kq z0 D m)(hx:(Lit.int kq x).wf=true):
  MpV P k kq z0 w' b (if(m x).isSome then c else c+1) (updV m x (some y)):=by
 have hsz:=size_put (k:=.int kq x) ht (.held y)
 have hh:Maps.has D (.int kq x)=(m x).isSome:=by
  cases em:m x with
  |none=>exact(hv x hx).1 em
  |some z=>exact((hv x hx).2 z em).1
 rw[hs,hh]at hsz;refine⟨_,by rw[<-hsz];exact owns_tightV h,hsz,fun z hz=>?_⟩;by_cases e1:z=x
 .subst e1
  rw[updV_same];exact⟨fun q=>(by cases q),fun y' q=>by cases q;exact⟨has_put_same ht.isMap keyLit _,atKey_put_same ht.isMap keyLit _ _⟩⟩
 .rw[updV_other _ _ e1]
  have ne:Lit.int kq z≠Lit.int kq x:=fun q=>e1 (by cases q;rfl)
  rw[has_put_other ne,atKey_put_other ne];exact hv z hz
theorem MpV.del_of{D:DataW Value}(M:MV P t k e kq z0){n:Nat}{x:Int}(h:w'.ownsMap P k rdV b n (D.del (.int kq x)))(ht:Tidy D)(hs:Maps.size D=c)(hv:SeesV kq z0 D m)(hx:(Lit.int kq x).wf=true):
  MpV P k kq z0 w' b (if(m x).isSome then c-1 else c) (updV m x none):=by
 have hsz:=size_del (k:=.int kq x) ht
 have hh:Maps.has D (.int kq x)=(m x).isSome:=by
  cases em:m x with
  |none=>exact(hv x hx).1 em
  |some z=>exact((hv x hx).2 z em).1
 rw[hs,hh]at hsz
 have hsz':Maps.size (D.del (.int kq x))=if(m x).isSome then c-1 else c:=by
  split at hsz
  .rename_i q;rw[if_pos q];omega
  .rename_i q;rw[if_neg q];omega
 refine⟨_,by rw[<-hsz'];exact owns_tightV h,hsz',fun z hz=>?_⟩;by_cases e1:z=x
 .subst e1
  rw[updV_same];exact⟨fun _=>has_del_same,fun y' q=>(by cases q)⟩
 .rw[updV_other _ _ e1]
  have ne:Lit.int kq z≠Lit.int kq x:=fun q=>e1 (by cases q;rfl)
  rw[has_del_other ne,atKey_del_other ne];exact hv z hz
theorem MpV.sees(h:MpV P k kq z0 w b c m):∃D:DataW Value,w.ownsMap P k rdV b c D∧∀x,(Lit.int kq x).wf=true->Maps.has D (.int kq x)=(m x).isSome∧D.atKey (.int kq x) (.held z0)=.held ((m x).getD z0):=by
 obtain⟨D,h1,h2,h3⟩:=h;refine⟨D,h1,fun x hx=>?_⟩
 cases em:m x with
 |none=>have:=(h3 x hx).1 em;exact⟨this,by rw[atKey_of_not_has this];rfl⟩
 |some z=>exact(h3 x hx).2 z em
theorem MpV.look_ok_run(M:MV P t k e kq z0)(h:MpV P k kq z0 w b c m){x:Int}(hx:(Lit.int kq x).wf=true):(Instr.lookup t (.map (some b)) (.int kq x) true).run P w=.ok (.tuple #[(m x).getD z0,.bool (m x).isSome]) w:=by
 obtain⟨D,h1,h2⟩:=h.sees;obtain⟨q1,q2⟩:=h2 x hx;obtain⟨v,ps,hrun,hv⟩:=h1.look_ok (int_keyed M.uk) M.ut (M.z w) (zd:=.held z0) (zp:=[]) rfl (keyOf_int_mk M.uk hx);rw[q2]at hv;simp only[rdV,Option.some.injEq,Prod.mk.injEq,DataW.held.injEq]at hv;rw[hrun,q1,hv.1]
theorem MpV.look_run(M:MV P t k e kq z0)(h:MpV P k kq z0 w b c m){x:Int}(hx:(Lit.int kq x).wf=true):(Instr.lookup t (.map (some b)) (.int kq x) false).run P w=.ok ((m x).getD z0) w:=by
 have hh:=h;obtain⟨D,h1,h2⟩:=h.sees;obtain⟨q1,q2⟩:=h2 x hx;obtain⟨es,clock,hb,F,_,rfl⟩:=h1;rcases Maps.fit_look false (int_keyed M.uk) M.ut (M.z w) hb F (keyOf_int_mk M.uk hx)with⟨hrun,_,hat⟩|⟨e0,y,_,_,hrun,hRv,hat,_⟩
 .rw[hat (.held z0)]at q2
  simp only[DataW.held.injEq]at q2;rw[<-q2];exact hrun
 .rw[hat (.held z0)]at q2
  simp only[rdV,Option.some.injEq]at hRv;rw[<-hRv]at q2;simp only[DataW.held.injEq]at q2;rw[<-q2];exact hrun
theorem MpV.put_run(M:MV P t k e kq z0)(h:MpV P k kq z0 w b c m)(hc:c<1000000){x:Int}(hx:(Lit.int kq x).wf=true)(y:Value):
  ∃w',(Instr.mapUpdate t (.map (some b)) (.int kq x) y).run P w=.ok () w'∧MpV P k kq z0 w' b (if(m x).isSome then c else c+1) (updV m x (some y))∧Fr (fun i=>i=b) w w':=by
 obtain⟨D,h1,h2,h3⟩:=h;have K:=int_keyed M.uk;obtain⟨w',r1,r2,r3⟩:=h1.store K M.ut (by unfold maxLen;omega) (keyOf_int_mk M.uk hx) (val:=y) (d:=.held y) (ps:=[]) rfl;exact⟨w',r1,MpV.put_of M r2 (h1.tidy K) h2 h3 hx,turned_fr r3⟩
theorem MpV.del_run(M:MV P t k e kq z0)(h:MpV P k kq z0 w b c m){x:Int}(hx:(Lit.int kq x).wf=true)(ty:TypeId):
  ∃w',(Builtin.delete_ #[t,k] ty #[.map (some b),.int kq x]).run P w=.ok (.tuple #[]) w'∧MpV P k kq z0 w' b (if(m x).isSome then c-1 else c) (updV m x none)∧Fr (fun i=>i=b) w w':=by
 obtain⟨D,h1,h2,h3⟩:=h;have K:=int_keyed M.uk;obtain⟨w',r,q1,q2⟩:=h1.drop K M.ut (keyOf_int_mk M.uk hx) ty;exact⟨w',r,MpV.del_of M q1 (h1.tidy K) h2 h3 hx,turned_fr q2⟩
variable{ops:Array Oper}{rest:List Oper}{o:Oper}{a:Act}{Q:Exit->Act->World->Prop}
theorem wp_putV(M:MV P t k e kq z0)(h:MpV P k kq z0 w b c m)(hc:c<1000000)(hg:o.guard=none)(mo xo vo:Operand)(hop:o.op=Op.mapUpdate t mo xo vo)(hm:a.eval mo=.map (some b)){x:Int}{y:Value}(hx:a.eval xo=.int kq x)(hv:a.eval vo=y)(hw:(Lit.int kq x).wf=true)
  (hK:∀w',MpV P k kq z0 w' b (if(m x).isSome then c else c+1) (updV m x (some y))->Fr (fun i=>i=b) w w'->wpList P ops Q rest (a.put o.dst undef) w'):wpList P ops Q (o::rest) a w:=by
 obtain⟨w',hrun,h1,h2⟩:=h.put_run M hc hw y;refine wpList_plain hg fun K' hK'=>?_
 unfold Oper.wp;simp[execOp,hop,hm,hx,hv,hrun,Result.andThen];exact hK' _ _ (hK _ h1 h2)
theorem wp_delV(M:MV P t k e kq z0)(h:MpV P k kq z0 w b c m)(hg:o.guard=none)(mo xo:Operand)(hop:o.op=Op.call {callee:=Callee.builtin Builtin.delete,args:=#[mo,xo],argTypes:=#[t,k]})(hm:a.eval mo=.map (some b)){x:Int}(hx:a.eval xo=.int kq x)(hw:(Lit.int kq x).wf=true)
  (hK:∀w',MpV P k kq z0 w' b (if(m x).isSome then c-1 else c) (updV m x none)->Fr (fun i=>i=b) w w'->wpList P ops Q rest (a.put o.dst (.tuple #[])) w'):wpList P ops Q (o::rest) a w:=by
 obtain⟨w',hrun,h1,h2⟩:=h.del_run M hw o.type;refine wpList_plain hg fun K' hK'=>?_
 unfold Oper.wp;simp[execOp,hop,resolve,invoke,builtin,hm,hx,hrun,Result.andThen];exact hK' _ _ (hK _ h1 h2)
end
end
section
open Go.Proofs.Tryz Go.RowKit
theorem tell_idle(w:World):CallsD prog 93 #[] .returning w fun e u' w'=>e=.returned (.tuple #[])∧u'=.returning∧w'=w:=by
 refine callsD_of_wpS func93 rfl fun c₀ cs hu=>?_
 apply wpS_region;simp[wpOpsS,go_sem,recoverD,hu,ntmps93,Exit.thenS]
 cases c₀
 simp_all [bodyPostS,results,Tryz.results93,Exit.thenS,go_sem]
theorem ask_idle(w:World):CallsD prog 124 #[] .returning w fun e u' w'=>e=.returned (.tuple #[])∧u'=.returning∧w'=w:=by
 refine callsD_of_wpS func124 rfl fun c₀ cs hu=>?_
 apply wpS_region;simp[wpOpsS,go_sem,recoverD,hu,ntmps124,Exit.thenS]
 cases c₀
 simp_all [bodyPostS,results,Tryz.results124,Exit.thenS,go_sem]
def Own(g:FuncId):Prop:=∀(args:Array Value) (w:World),(callFunc g args).run prog w=.ok (.enter g args) w
section
variable{w:World}{pb:Nat}{g:FuncId}{rv:Value}
theorem tell_one{c1:Value}{Q:World->Prop}(ho:Own g)(hr:w.cell? ⟨pb,1,none⟩=some rv)(hlt:pb<w.heap.size)(hc:Calls prog g #[rv,c1] w fun e w'=>e=.returned (.tuple #[])∧Q w'):
  Calls prog 69 #[.pointer (some ⟨pb,0,none⟩),.func (.func g) #[] #[c1]] w fun e w'=>e=.returned (.tuple #[])∧Q w':=by
 have HC:=Hd hc;have HO:=Hd ho;clear hc ho
 go_enter_defers func69,ntmps69
 go_wp2_with fail
 rw[HO.out,Oper.upon_enter];refine HC.out.mono ?_;rintro e w1⟨rfl,hq⟩;have HQ:=Hd hq;clear hq;go_wp2;refine leaves_cons (f:=93) (args:=#[]) (by simp) (by simp[go_sem]) ?_;refine(tell_idle _).mono ?_;rintro e u' w''⟨rfl,rfl,rfl⟩;simp[Leaves,settle,results,Tryz.results69,go_sem];exact HQ.out
theorem tell_two{c1 c2:Value}{Q:World->Prop}(ho:Own g)(hr:w.cell? ⟨pb,1,none⟩=some rv)(hlt:pb<w.heap.size)(hc:Calls prog g #[rv,c1,c2] w fun e w'=>e=.returned (.tuple #[])∧Q w'):
  Calls prog 69 #[.pointer (some ⟨pb,0,none⟩),.func (.func g) #[] #[c1,c2]] w fun e w'=>e=.returned (.tuple #[])∧Q w':=by
 have HC:=Hd hc;have HO:=Hd ho;clear hc ho
 go_enter_defers func69,ntmps69
 go_wp2_with fail
 rw[HO.out,Oper.upon_enter];refine HC.out.mono ?_;rintro e w1⟨rfl,hq⟩;have HQ:=Hd hq;clear hq;go_wp2;refine leaves_cons (f:=93) (args:=#[]) (by simp) (by simp[go_sem]) ?_;refine(tell_idle _).mono ?_;rintro e u' w''⟨rfl,rfl,rfl⟩;simp[Leaves,settle,results,Tryz.results69,go_sem];exact HQ.out
end
end
end Go.Proofs.YtoenclhimbpfeaaGreatDoor
