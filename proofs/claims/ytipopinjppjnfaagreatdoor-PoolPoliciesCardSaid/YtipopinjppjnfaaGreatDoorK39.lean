/- Part 39. -/
import Derived.Test.YtipopinjppjnfaaGreatDoorK38
namespace Go.Proofs.YtipopinjppjnfaaGreatDoor
set_option linter.all false
set_option maxHeartbeats 16000000
set_option maxRecDepth 100000
section
open Go.Maps Go.Proofs.Tryz Go.RowKit
def updF(f:Nat->Bool×Nat)(x:Nat)(p:Bool×Nat):Nat->Bool×Nat:=fun i=>if i=x then p else f i
theorem updF_same(f:Nat->Bool×Nat)(x:Nat)(p:Bool×Nat):updF f x p x=p:=if_pos rfl
theorem updF_other(f:Nat->Bool×Nat){x z:Nat}(p:Bool×Nat)(h:¬z=x):updF f x p z=f z:=if_neg h
section
variable{w w':World}{lb fb mb q1 q2 q3 q4 ne:Nat}{S:LK}{FC F4:Nat->Prop}
theorem LM.newFr(h:LM w lb S fb mb q1 q2 q3 q4 ne FC F4){f':Nat->Bool×Nat}(hb:Blk w' fb (2*S.n) (frC f'))(f:Fr (fun i=>i=fb) w w')(hok:∀i,okN (f' i).2):LM w' lb {S with fr:=f'} fb mb q1 q2 q3 q4 ne FC F4:=
 ⟨h.blk.fr f (fun q=>h.d1 q.symm),hb,h.mp.fr f h.d3,h.cc.fr f (fun i q e=>h.d4 (e▸q)) (fun q=>h.d1 q.symm),h.qk.fr f (fun i q e=>h.d7 (e▸q)),h.d1,h.d2,h.d3,h.d4,h.d5,h.d6,h.d7,h.d8,h.d9,h.ne,⟨h.ok.n1,h.ok.k1,h.ok.near,h.ok.kept,hok,h.ok.past,h.ok.tn,h.ok.old,h.ok.oldn,h.ok.ord⟩⟩
theorem LM.newCC(h:LM w lb S fb mb q1 q2 q3 q4 ne FC F4){R':Nat->Option (Int×Int)}{Fa':Nat->Bool}{t':Nat}{FC':Nat->Prop}(hc:CC w' lb R' Fa' t' FC')(f:Fr FC w w')(hF:∀i,FC' i->FC i∨w.heap.size<=i)(ht:t'=cntR R' S.n):LM w' lb {S with R:=R',Fa:=Fa',t:=t'} fb mb q1 q2 q3 q4 ne FC' F4:=by
 have l1:=h.blk.lt;have l2:=h.frs.lt;have l3:=h.mp.lt;have l4:=h.qk.lt;exact⟨h.blk.fr f h.cc.notl,h.frs.fr f h.d4,h.mp.fr f h.d5,hc,h.qk.fr f (fun i q q'=>h.d9 i q' q),h.d1,h.d2,h.d3,fun q=>(hF _ q).elim h.d4 (fun z=>by omega),fun q=>(hF _ q).elim h.d5 (fun z=>by omega),h.d6,h.d7,h.d8,fun i q q'=>(hF i q).elim (fun z=>h.d9 i z q') (fun z=>by have:=l4 i q';omega),h.ne,⟨h.ok.n1,h.ok.k1,h.ok.near,h.ok.kept,h.ok.fr,h.ok.past,ht,h.ok.old,h.ok.oldn,h.ok.ord⟩⟩
theorem LM.newQ(h:LM w lb S fb mb q1 q2 q3 q4 ne FC F4){l':List (Nat×Nat)}{F4':Nat->Prop}(hq:QK w' q4 (oldK l') l'.length F4')(f:Fr F4 w w')(hF:∀i,F4' i->F4 i∨w.heap.size<=i)(ho:∀p,p∈l'->okN p.1∧p.2<=S.gone)(hn:l'.length<=S.gone)(hord:l'.Pairwise fun p q=>p.2<q.2∧¬p.1=q.1):LM w' lb {S with Old:=l'} fb mb q1 q2 q3 q4 ne FC F4':=by
 have l1:=h.blk.lt;have l2:=h.frs.lt;have l3:=h.mp.lt;have l4:=h.cc.lt;exact⟨h.blk.fr f h.d6,h.frs.fr f h.d7,h.mp.fr f h.d8,h.cc.fr f h.d9 h.d6,hq,h.d1,h.d2,h.d3,h.d4,h.d5,fun q=>(hF _ q).elim h.d6 (fun z=>by omega),fun q=>(hF _ q).elim h.d7 (fun z=>by omega),fun q=>(hF _ q).elim h.d8 (fun z=>by omega),fun i q q'=>(hF i q').elim (fun z=>h.d9 i q z) (fun z=>by have:=l4 i q;omega),h.ne,⟨h.ok.n1,h.ok.k1,h.ok.near,h.ok.kept,h.ok.fr,h.ok.past,h.ok.tn,ho,hn,hord⟩⟩
theorem LM.newMap(h:LM w lb S fb mb q1 q2 q3 q4 ne FC F4){P':Nat->Option (Int×(Nat->Int))}{ne':Nat}(hm:MpV prog 32 .u32 zeroPast w' mb ne' (psM P'))(f:Fr (fun i=>i=mb) w w')(hn:ne'<=S.T)(hp:∀x p,P' x=some p->0<=p.1∧p.1<=S.T∧∀j,0<=p.2 j∧p.2 j<=p.1∧p.2 j<=p.2 0):LM w' lb {S with P:=P'} fb mb q1 q2 q3 q4 ne' FC F4:=
 ⟨h.blk.fr f (fun q=>h.d2 q.symm),h.frs.fr f (fun q=>h.d3 q.symm),hm,h.cc.fr f (fun i q e=>h.d5 (e▸q)) (fun q=>h.d2 q.symm),h.qk.fr f (fun i q e=>h.d8 (e▸q)),h.d1,h.d2,h.d3,h.d4,h.d5,h.d6,h.d7,h.d8,h.d9,hn,⟨h.ok.n1,h.ok.k1,h.ok.near,h.ok.kept,h.ok.fr,hp,h.ok.tn,h.ok.old,h.ok.oldn,h.ok.ord⟩⟩
theorem CC.set{R:Nat->Option (Int×Int)}{Fa:Nat->Bool}{t:Nat}{F:Nat->Prop}{c:Nat->Value}(h:CC w lb R Fa t F)(hb:Blk w lb 11 c){i:Nat}(hi:¬i=6∧¬i=7∧¬i=8)(v:Value):CC (w.setCell ⟨lb,i,none⟩ v) lb R Fa t F:=by
 have hn:=h.notl;obtain⟨p1,p2,p3,nf,nr,F1,F2,F3,h,ht,hF⟩:=h;have f:Fr (fun z=>z=lb) w (w.setCell ⟨lb,i,none⟩ v):=(Fr.refl (fun z=>z=lb) w).setCell (p:=⟨lb,i,none⟩) (.inl rfl) v;have hb2:=hb.set i v
 have e6:(w.setCell ⟨lb,i,none⟩ v).cell? ⟨lb,6,none⟩=w.cell? ⟨lb,6,none⟩:=by
  rw[hb2.cell (i:=6) (by omega),hb.cell (i:=6) (by omega),upd_other _ _ (by omega)]
 have e7:(w.setCell ⟨lb,i,none⟩ v).cell? ⟨lb,7,none⟩=w.cell? ⟨lb,7,none⟩:=by
  rw[hb2.cell (i:=7) (by omega),hb.cell (i:=7) (by omega),upd_other _ _ (by omega)]
 have e8:(w.setCell ⟨lb,i,none⟩ v).cell? ⟨lb,8,none⟩=w.cell? ⟨lb,8,none⟩:=by
  rw[hb2.cell (i:=8) (by omega),hb.cell (i:=8) (by omega),upd_other _ _ (by omega)]
 exact⟨p1,p2,p3,nf,nr,F1,F2,F3,⟨e6.trans h.p6,e7.trans h.p7,e8.trans h.p8,Nat.lt_of_lt_of_le h.lt f.size,h.h1.fr f (fun i q e=>h.n1 (e▸q)),h.h2.fr f (fun i q e=>h.n2 (e▸q)),h.h3.fr f (fun i q e=>h.n3 (e▸q)),h.d12,h.d13,h.d23,h.n1,h.n2,h.n3,h.ok⟩,ht,hF⟩
theorem LM.tick(h:LM w lb S fb mb q1 q2 q3 q4 ne FC F4){z:Int}(hz:z=((S.T+1:Nat):Int)):LM (w.setCell ⟨lb,3,none⟩ (.int .i64 z)) lb {S with T:=S.T+1} fb mb q1 q2 q3 q4 ne FC F4∧Fr (fun i=>i=lb) w (w.setCell ⟨lb,3,none⟩ (.int .i64 z)):=by
 subst hz;have f:Fr (fun z=>z=lb) w (w.setCell ⟨lb,3,none⟩ (.int .i64 ((S.T+1:Nat):Int))):=(Fr.refl (fun z=>z=lb) w).setCell (p:=⟨lb,3,none⟩) (.inl rfl) _;refine⟨⟨(h.blk.set 3 _).congr (fun i hi=>?_),h.frs.fr f h.d1,h.mp.fr f h.d2,h.cc.set h.blk (by omega) _,h.qk.fr f (fun i q e=>h.d6 (e▸q)),h.d1,h.d2,h.d3,h.d4,h.d5,h.d6,h.d7,h.d8,h.d9,Nat.le_succ_of_le h.ne,⟨h.ok.n1,h.ok.k1,h.ok.near,h.ok.kept,h.ok.fr,fun x p q=>?_,h.ok.tn,h.ok.old,h.ok.oldn,h.ok.ord⟩⟩,f⟩
 .match i,hi with
  |0,_|1,_|2,_|3,_|4,_|5,_|6,_|7,_|8,_|9,_|10,_=>rfl
 .obtain⟨a,b,c⟩:=h.ok.past x p q
  exact⟨a,by show p.1<=((S.T+1:Nat):Int);omega,c⟩
theorem LM.goes(h:LM w lb S fb mb q1 q2 q3 q4 ne FC F4){z:Int}(hz:z=((S.gone+1:Nat):Int)):LM (w.setCell ⟨lb,10,none⟩ (.int .i64 z)) lb {S with gone:=S.gone+1} fb mb q1 q2 q3 q4 ne FC F4∧Fr (fun i=>i=lb) w (w.setCell ⟨lb,10,none⟩ (.int .i64 z)):=by
 subst hz;have f:Fr (fun z=>z=lb) w (w.setCell ⟨lb,10,none⟩ (.int .i64 ((S.gone+1:Nat):Int))):=(Fr.refl (fun z=>z=lb) w).setCell (p:=⟨lb,10,none⟩) (.inl rfl) _;refine⟨⟨(h.blk.set 10 _).congr (fun i hi=>?_),h.frs.fr f h.d1,h.mp.fr f h.d2,h.cc.set h.blk (by omega) _,h.qk.fr f (fun i q e=>h.d6 (e▸q)),h.d1,h.d2,h.d3,h.d4,h.d5,h.d6,h.d7,h.d8,h.d9,h.ne,⟨h.ok.n1,h.ok.k1,h.ok.near,h.ok.kept,h.ok.fr,h.ok.past,h.ok.tn,fun p q=>⟨(h.ok.old p q).1,Nat.le_succ_of_le (h.ok.old p q).2⟩,Nat.le_succ_of_le h.ok.oldn,h.ok.ord⟩⟩,f⟩
 match i,hi with
 |0,_|1,_|2,_|3,_|4,_|5,_|6,_|7,_|8,_|9,_|10,_=>rfl
theorem frC_full(f:Nat->Bool×Nat)(x:Nat)(b:Bool):upd (frC f) (x*2) (.bool b)=frC (updF f x (b,(f x).2)):=by
 funext i
 unfold upd frC updF;by_cases e:i=x*2
 .subst e;rw[if_pos rfl,if_pos (by omega),show x*2/2=x from by omega,if_pos rfl]
 .rw[if_neg e]
  by_cases e2:i/2=x
  .rw[if_neg (by omega),if_neg (by omega),if_pos e2,e2]
  .rw[if_neg e2]
theorem frC_both(f:Nat->Bool×Nat)(x:Nat)(b:Bool)(p:Nat):upd (upd (frC f) (x*2) (.bool b)) (x*2+1) (.int .u32 p)=frC (updF f x (b,p)):=by
 funext i
 unfold upd frC updF;by_cases e:i=x*2
 .subst e;rw[if_neg (by omega),if_pos rfl,if_pos (by omega),show x*2/2=x from by omega,if_pos rfl]
 .by_cases e3:i=x*2+1
  .subst e3;rw[if_pos rfl,if_neg (by omega),show(x*2+1)/2=x from by omega,if_pos rfl]
  .rw[if_neg e3,if_neg e,if_neg (show¬i/2=x by omega)]
theorem empty_callsK(h:LM w lb S fb mb q1 q2 q3 q4 ne FC F4){at':Nat}(ha:at'<S.n):Calls prog 158 #[.pointer (some ⟨lb,0,none⟩),.int .i64 at'] w fun e w'=>e=.returned (.tuple #[])∧
  LM w' lb {S with fr:=updF S.fr at' (false,(S.fr at').2),R:=updKK S.R at' none,t:=lessN S.t (S.R at').isSome} fb mb q1 q2 q3 q4 ne FC F4∧Fr (fun i=>i=fb∨FC i) w w':=by
 have hx:okN at':=by have:=h.ok.n1;unfold okN;omega
 have fA:Fr (fun i=>i=fb) w (w.setCell ⟨fb,at'*2,none⟩ (.bool false)):=(Fr.refl (fun z=>z=fb) w).setCell (p:=⟨fb,at'*2,none⟩) (.inl rfl) _;have hb:=h.frs.set (at'*2) (.bool false);rw[frC_full]at hb
 have h2:=h.newFr hb fA (fun i=>by
  unfold updF
  split
  .exact h.ok.fr at'
  .exact h.ok.fr i)
 have HC:=Hd (cc_drop h2.cc hx);have H2:=Hd h2;have HFA:=Hd fA;have c4:w.cell? ⟨lb,4,none⟩=some (.slice (some ⟨fb,0,none⟩) S.n S.n):=h.ce 4 (by omega);have lt:=h.blk.lt;have lf:=h.frs.lt;have hfu:=h.full ha;have fz:=h.frs.frozen (at'*2);have h1:(at':Int)<S.n:=by omega
 have h0:0<=(at':Int):=by omega
 have HTN:=Hd h.ok.tn;have HAT:Hid (at'<S.n):=ha;clear h h2 hb fA hx;generalize(S.fr at').1=fu at*;go_enter func158,ntmps158
 go_wp2_with fail
 refine HC.out.mono ?_;rintro e w1⟨rfl,hc,f1⟩;have h3:=H2.out.newCC hc f1 (fun i q=>.inl q) (by show lessN S.t (S.R at').isSome=cntR (updKK S.R at' none) S.n;rw[cntR_drop _ HAT.out,<-HTN.out]);have H3:=Hd h3;have HF1:=Hd f1;clear h3 f1 hc;go_wp2;go_returns;exact⟨rfl,H3.out,(HFA.out.mono (fun _ q=>.inl q)).trans HF1.out (fun _ q=>.inl (.inr q))⟩
end
def woO(l:List (Nat×Nat))(x:Nat):List (Nat×Nat):=l.filter fun p=>!decide (p.1=x)
theorem oldK_cons(p:Nat×Nat)(l:List (Nat×Nat))(z:Nat):oldK (p::l) z=if p.1=z then some ((p.2:Int),0)else oldK l z:=by
 unfold oldK;rw[List.find?_cons];by_cases e:p.1=z
 .simp[e]
 .simp[e]
theorem oldK_none{l:List (Nat×Nat)}{z:Nat}:oldK l z=none↔∀p,p∈l->¬p.1=z:=by
 induction l with
 |nil=>simp[oldK]
 |cons p l ih=>
  rw[oldK_cons];by_cases e:p.1=z
  .rw[if_pos e]
   exact⟨fun q=>(by cases q),fun q=>absurd e (q p (by simp))⟩
  .rw[if_neg e,ih]
   exact⟨fun q r hr=>by
    rcases List.mem_cons.1 hr with rfl|hr
    .exact e
    .exact q r hr,fun q r hr=>q r (by simp[hr])⟩
theorem woO_cons(p:Nat×Nat)(l:List (Nat×Nat))(x:Nat):woO (p::l) x=if p.1=x then woO l x else p::woO l x:=by
 unfold woO;rw[List.filter_cons];by_cases e:p.1=x
 .simp[e]
 .simp[e]
theorem oldK_wo(l:List (Nat×Nat))(x:Nat):oldK (woO l x)=updKK (oldK l) x none:=by
 funext z
 induction l with
 |nil=>unfold updKK woO oldK;simp
 |cons p l ih=>
  rw[woO_cons];by_cases e:p.1=x
  .rw[if_pos e,ih]
   unfold updKK;by_cases e2:z=x
   .rw[if_pos e2,if_pos e2]
   .rw[if_neg e2,if_neg e2,oldK_cons,if_neg (by omega)]
  .rw[if_neg e,oldK_cons,ih]
   unfold updKK;by_cases e2:z=x
   .rw[if_pos e2,if_pos e2,if_neg (by omega)]
   .rw[if_neg e2,if_neg e2,oldK_cons]
def OrdO(l:List (Nat×Nat)):Prop:=l.Pairwise fun p q=>p.2<q.2∧¬p.1=q.1
theorem woO_len{l:List (Nat×Nat)}(h:OrdO l)(x:Nat):(woO l x).length=lessN l.length (oldK l x).isSome:=by
 induction l with
 |nil=>rfl
 |cons p l ih=>
  obtain⟨h1,h2⟩:=List.pairwise_cons.1 h;rw[woO_cons,oldK_cons];by_cases e:p.1=x
  .rw[if_pos e,if_pos e,ih h2]
   have:oldK l x=none:=oldK_none.2 (fun q hq e2=>(h1 q hq).2 (by omega));rw[this];simp[lessN]
  .rw[if_neg e,if_neg e,List.length_cons,ih h2]
   cases e3:oldK l x with
   |none=>simp[lessN]
   |some y=>
    have:l≠[]:=by rintro rfl;simp[oldK]at e3
    have:=List.length_pos_iff.2 this;simp[lessN];omega
theorem woO_ord{l:List (Nat×Nat)}(h:OrdO l)(x:Nat):OrdO (woO l x):=List.Pairwise.filter _ h
theorem woO_mem{l:List (Nat×Nat)}{x:Nat}{p:Nat×Nat}(h:p∈woO l x):p∈l∧¬p.1=x:=by
 have:=List.mem_filter.1 h;exact⟨this.1,by simpa using this.2⟩
theorem oldK_app{l:List (Nat×Nat)}{x:Nat}(h:oldK l x=none)(g:Nat):oldK (l++[(x,g)])=updKK (oldK l) x (some ((g:Int),0)):=by
 funext z
 induction l with
 |nil=>
  rw[List.nil_append,oldK_cons];unfold updKK;by_cases e:z=x
  .subst e;simp
  .rw[if_neg (fun q=>e q.symm),if_neg e]
 |cons p l ih=>
  rw[oldK_cons]at h;by_cases e:p.1=x
  .rw[if_pos e]at h;cases h
  .rw[if_neg e]at h
   rw[List.cons_append,oldK_cons,ih h];unfold updKK;by_cases e2:z=x
   .rw[if_pos e2,if_pos e2,if_neg (by omega)]
   .rw[if_neg e2,if_neg e2,oldK_cons]
theorem ord_app{l:List (Nat×Nat)}{x g:Nat}(h:OrdO l)(hn:oldK l x=none)(hg:∀p,p∈l->p.2<g):OrdO (l++[(x,g)]):=by
 refine List.pairwise_append.2 ⟨h,by simp,fun p hp q hq=>?_⟩;obtain rfl:q=(x,g):=by simpa using hq
 exact⟨hg p hp,oldK_none.1 hn p hp⟩
theorem oldK_mem{l:List (Nat×Nat)}{z:Nat}{a b:Int}(h:oldK l z=some (a,b)):∃g:Nat,(z,g)∈l∧a=g∧b=0:=by
 unfold oldK at h
 cases e:l.find? (fun p=>decide (p.1=z))with
 |none=>rw[e]at h;cases h
 |some p=>
  rw[e]at h;have h1:=List.mem_of_find?_eq_some e;have h2:=List.find?_some e;simp at h2
  injection h with h
  injection h with h3 h4
  exact⟨p.2,by rw[<-h2];exact h1,h3.symm,h4.symm⟩
theorem oldK_least{p:Nat×Nat}{l:List (Nat×Nat)}(h:OrdO (p::l)){x:Nat}(hx:LeastK (oldK (p::l)) x):x=p.1:=by
 obtain⟨a,b,h1,h2⟩:=hx;obtain⟨g,hm,rfl,rfl⟩:=oldK_mem h1;have h3:=h2 p.1 p.2 0 (by rw[oldK_cons,if_pos rfl]);rcases List.mem_cons.1 hm with q|q
 .exact(congrArg Prod.fst q)
 .have:=((List.pairwise_cons.1 h).1 _ q).1
  simp only at this;omega
theorem oldK_tail{p:Nat×Nat}{l:List (Nat×Nat)}(h:OrdO (p::l)):oldK l=updKK (oldK (p::l)) p.1 none:=by
 have e:woO (p::l) p.1=l:=by
  rw[woO_cons,if_pos rfl];unfold woO;refine List.filter_eq_self.2 (fun q hq=>?_);have:=((List.pairwise_cons.1 h).1 q hq).2;simp;omega
 rw[<-oldK_wo,e]
def remS(S:LK)(x:Nat):LK:=
 if S.kept<(S.Old++[(x,S.gone+1)]).length then{S with gone:=S.gone+1,Old:=(S.Old++[(x,S.gone+1)]).tail,P:=updOK S.P ((S.Old++[(x,S.gone+1)]).headD (0,0)).1 none}
 else{S with gone:=S.gone+1,Old:=S.Old++[(x,S.gone+1)]}
section
variable{w w':World}{lb fb mb q1 q2 q3 q4 ne:Nat}{S:LK}{FC F4:Nat->Prop}
theorem LM.pastok(h:LM w lb S fb mb q1 q2 q3 q4 ne FC F4)(x:Nat):0<=(pastOf S x).1∧(pastOf S x).1<=S.T∧∀j,0<=(pastOf S x).2 j∧(pastOf S x).2 j<=(pastOf S x).1∧(pastOf S x).2 j<=(pastOf S x).2 0:=by
 unfold pastOf
 cases e:S.P x with
 |none=>exact⟨by simp,by simp,fun j=>by simp⟩
 |some p=>exact h.ok.past x p e
theorem LM.look(h:LM w lb S fb mb q1 q2 q3 q4 ne FC F4){x:Nat}(hx:okN x):(Instr.lookup 121 (.map (some mb)) (.int .u32 (x:Nat)) false).run prog w=.ok (pastV (pastOf S x).1 (pastOf S x).2) w:=by
 have:=h.mp.look_run MVp (okN_wf hx);rw[psM_at]at this;rw[this];unfold pastOf
 cases S.P x<;>rfl
theorem rank_calls(h:LM w lb S fb mb q1 q2 q3 q4 ne FC F4){x:Nat}(hx:okN x):Calls prog 156 #[.pointer (some ⟨lb,0,none⟩),.int .u32 x] w fun e w'=>e=.returned (.agg #[.int .i64 (rankOf S x).1,.int .i64 (rankOf S x).2])∧Fr NoF w w':=by
 unfold rankOf;have hk:=h.ok.k1;have fA:Fr NoF w (w.alloc (.cells #[.int .i64 0,.int .i64 0] 219)):=(Fr.refl NoF w).alloc _;have hlk:=(h.fr0 fA).look hx;have c5:(w.alloc (.cells #[.int .i64 0,.int .i64 0] 219)).cell? ⟨lb,5,none⟩=some (.map (some mb)):=(h.fr0 fA).ce 5 (by omega);have lt:=h.blk.lt;generalize(pastOf S x).1=last at*;generalize(pastOf S x).2=t at*;have fB:Fr NoF w ((w.alloc (.cells #[.int .i64 0,.int .i64 0] 219)).alloc (.cells #[.int .i64 last,.int .i64 (t 0),.int .i64 (t 1),.int .i64 (t 2),.int .i64 (t 3),.int .i64 (t 4),.int .i64 (t 5),.int .i64 (t 6),.int .i64 (t 7)] 215)):=fA.alloc _
 have b1:Blk ((w.alloc (.cells #[.int .i64 0,.int .i64 0] 219)).alloc (.cells #[.int .i64 last,.int .i64 (t 0),.int .i64 (t 1),.int .i64 (t 2),.int .i64 (t 3),.int .i64 (t 4),.int .i64 (t 5),.int .i64 (t 6),.int .i64 (t 7)] 215)) w.heap.size 2 (fun _=>.int .i64 0):=(Blk.new w _ 219 2 _ _ rfl rfl (fun i hi=>by
  match i,hi with
  |0,_|1,_=>rfl)).alloc _
 have b2:Blk ((w.alloc (.cells #[.int .i64 0,.int .i64 0] 219)).alloc (.cells #[.int .i64 last,.int .i64 (t 0),.int .i64 (t 1),.int .i64 (t 2),.int .i64 (t 3),.int .i64 (t 4),.int .i64 (t 5),.int .i64 (t 6),.int .i64 (t 7)] 215)) (w.heap.size+1) 9 (pastC last t):=Blk.new _ _ 215 9 _ _ (by simp) rfl (fun i hi=>by
  match i,hi with
  |0,_|1,_|2,_|3,_|4,_|5,_|6,_|7,_|8,_=>rfl)
 have d0:((w.alloc (.cells #[.int .i64 0,.int .i64 0] 219)).alloc (.cells #[.int .i64 last,.int .i64 (t 0),.int .i64 (t 1),.int .i64 (t 2),.int .i64 (t 3),.int .i64 (t 4),.int .i64 (t 5),.int .i64 (t 6),.int .i64 (t 7)] 215)).cell? ⟨lb,0,none⟩=some (.int .i64 S.k):=(h.fr0 fB).ce 0 (by omega);have x0:=b2.cell (i:=0) (by omega);have x1:=b2.cell (i:=1+(S.k-1)) (by omega);rw[show pastC last t (1+(S.k-1))=.int .i64 (t (S.k-1))from by unfold pastC;rw[if_neg (by omega),show 1+(S.k-1)-1=S.k-1 from by omega],show 1+(S.k-1)=S.k from by omega]at x1;rw[show pastC last t 0=.int .i64 last from rfl]at x0;have fz0:=b1.frozen 0;have fz1:=b1.frozen 1;have l1:=b1.lt;have l2:=b2.lt;have lw:=(h.fr0 fB).blk.lt;have HB1:=Hd b1;have HFB:=Hd fB;have hw:IntKind.i64.wrap ((S.k:Int)-1)=((S.k-1:Nat):Int):=by rw[show((S.k:Int)-1)=((S.k-1:Nat):Int)from by omega];exact IntWalk.i64_in _ (by omega)
 have hk1:0<=((S.k-1:Nat):Int):=by omega
 have hk2:((S.k-1:Nat):Int)<8:=by omega
 have hk3:(((S.k-1:Nat):Int)).toNat=S.k-1:=by omega
 unfold pastV at hlk;clear h b1 b2 fA fB hx;generalize t (S.k-1)=tk at*;go_enter func156,ntmps156
 go_upto_region 2 with fail
 generalize(w.alloc (.cells #[.int .i64 0,.int .i64 0] 219)).alloc (.cells #[.int .i64 last,.int .i64 (t 0),.int .i64 (t 1),.int .i64 (t 2),.int .i64 (t 3),.int .i64 (t 4),.int .i64 (t 5),.int .i64 (t 6),.int .i64 (t 7)] 215)=wx at*;clear hlk c5;have hb2:=HB1.out.drew;have hf2:=HFB.out.drew
 go_still_tail 11,(by kernel_rfl)
 change wpList _ _ _ _ _ wx.drew;clear fz0 fz1 l1 l2 lw x0 x1 d0;generalize wx.drew=w2 at*;have fz0:=hb2.frozen 0;have fz1:=hb2.frozen 1;have l1:=hb2.lt;have HB2:=Hd hb2;have HF2:=Hd hf2;have d0:=hb2.cell (i:=0) (by omega);have d1:=hb2.cell (i:=1) (by omega);clear hb2 hf2;go_wp2
 (try simp only[Exit.inBlock,Exit.then])
 refine bodyPost_ret (results_blkK Tryz.results156 _ _ ((HB2.out.set 0 (.int .i64 tk)).set 1 (.int .i64 last)) rfl underlying219 rfl (by kernel_rfl)) (by rfl) ?_;exact⟨rfl,(HF2.out.setCell (p:=⟨w.heap.size,0,none⟩) (.inr (Nat.le_refl _)) _).setCell (p:=⟨w.heap.size,1,none⟩) (.inr (Nat.le_refl _)) _⟩
end
section
variable{w w':World}{lb fb mb q1 q2 q3 q4 ne:Nat}{S:LK}{FC F4:Nat->Prop}
theorem LM.forget(h:LM w lb S fb mb q1 q2 q3 q4 ne FC F4){x:Nat}(hm:MpV prog 32 .u32 zeroPast w' mb (if(psM S.P (x:Int)).isSome then ne-1 else ne) (updV (psM S.P) (x:Int) none))(f:Fr (fun i=>i=mb) w w'):LM w' lb {S with P:=updOK S.P x none} fb mb q1 q2 q3 q4 (if(psM S.P (x:Int)).isSome then ne-1 else ne) FC F4:=by
 have e:updV (psM S.P) (x:Int) none=psM (updOK S.P x none):=psM_upd S.P x none;rw[e]at hm;refine h.newMap hm f (by have:=h.ne;split<;>omega) (fun z p q=>?_);by_cases e:z=x
 .subst e;rw[updO_sameK]at q;cases q
 .rw[updO_otherK _ _ e]at q;exact h.ok.past z p q
theorem remember_calls(h:LM w lb S fb mb q1 q2 q3 q4 ne FC F4){x:Nat}(hx:okN x)(hnew:oldK S.Old x=none)(hg:S.gone<800000):Calls prog 161 #[.pointer (some ⟨lb,0,none⟩),.int .u32 x] w fun e w'=>e=.returned (.tuple #[])∧∃ne' F4',LM w' lb (remS S x) fb mb q1 q2 q3 q4 ne' FC F4'∧Fr (LFK lb fb mb FC F4) w w'∧∀i,F4' i->F4 i∨w.heap.size<=i:=by
 obtain⟨g1,hg1⟩:∃g1:Int,g1=((S.gone+1:Nat):Int):=⟨_,rfl⟩;have hw:IntKind.i64.wrap ((S.gone:Int)+1)=g1:=by rw[show((S.gone:Int)+1)=((S.gone+1:Nat):Int)from by omega,hg1];exact IntWalk.i64_in _ (by omega)
 obtain⟨h1,f1⟩:=h.goes (z:=g1) hg1;have HG1:=Hd hg1;have H1:=Hd h1;have HF1:=Hd f1;have c10:w.cell? ⟨lb,10,none⟩=some (.int .i64 S.gone):=h.ce 10 (by omega);have lt:=h.blk.lt;have fz:=h.blk.frozen 10;have HX:=Hd hx;have HOLD:=Hd h.ok.old;have HORD:=Hd h.ok.ord;have HLEN:=Hd h.ok.oldn;have HNEW:=Hd hnew;have hcv:IntKind.i64.wrap (x:Int)=(x:Int):=IntWalk.i64_in _ (by unfold okN at hx;omega);have HLT:Hid (∀i,F4 i->i<w.heap.size):=h.qk.lt;clear h h1 f1 hnew hx hg1;go_enter func161,ntmps161
 go_upto_region 1 with fail
 generalize w.setCell ⟨lb,10,none⟩ (.int .i64 g1)=w1 at*;have c9:w1.cell? ⟨lb,9,none⟩=some (.pointer (some ⟨q4,0,none⟩)):=H1.out.ce 9 (by omega);have c10':w1.cell? ⟨lb,10,none⟩=some (.int .i64 g1):=by rw[HG1.out];exact H1.out.ce 10 (by omega)
 have lt1:=H1.out.blk.lt;clear c10 lt fz;have HP:=Hd (qk_put (H1.out.qk.fr0 (Fr.refl NoF w1).drew) HX.out (a:=g1) (b:=0) (i64_in (by rw[HG1.out];exact⟨by omega,by omega⟩)) (i64_in ⟨by omega,by omega⟩) (by show S.Old.length<900000;have:=HLEN.out;omega));have H1d:=Hd (H1.out.fr0 (Fr.refl NoF w1).drew)
 go_still_tail 11,(by kernel_rfl)
 go_wp2_with fail
 refine HP.out.mono ?_;rintro e w2⟨rfl,F4a,h2,f2,hF2⟩;have e1:updKK (oldK S.Old) x (some (g1,0))=oldK (S.Old++[(x,S.gone+1)]):=by rw[HG1.out];exact(oldK_app HNEW.out _).symm
 have e2:moreN S.Old.length (oldK S.Old x).isSome=(S.Old++[(x,S.gone+1)]).length:=by rw[HNEW.out,List.length_append];rfl
 have h2':QK w2 q4 (oldK (S.Old++[(x,S.gone+1)])) (S.Old++[(x,S.gone+1)]).length F4a:=by rw[<-e1,<-e2];exact h2
 have hord:OrdO (S.Old++[(x,S.gone+1)]):=ord_app HORD.out HNEW.out (fun p q=>by have:=(HOLD.out p q).2;omega)
 have h3:=H1d.out.newQ h2' f2 hF2 (fun p q=>by
  rcases List.mem_append.1 q with q|q
  .exact⟨(HOLD.out p q).1,Nat.le_succ_of_le (HOLD.out p q).2⟩
  .obtain rfl:p=(x,S.gone+1):=by simpa using q
   exact⟨HX.out,Nat.le_refl _⟩) (by rw[List.length_append];exact Nat.succ_le_succ HLEN.out) hord
 have H3:=Hd h3;have HORD2:=Hd hord;have f12:Fr (LFK lb fb mb FC F4) w w2:=((HF1.out.mono (fun i q=>.inl q)).drew).trans f2 (fun i q=>.inl (.inr (.inr (.inr (.inr q)))));have HF2:=Hd f12;have hF2':∀i,F4a i->F4 i∨w.heap.size<=i:=fun i q=>(hF2 i q).elim .inl (fun z=>.inr (Nat.le_trans HF1.out.size z))
 have HG2:=Hd hF2';have HREM:Hid (remS S x=if S.kept<(S.Old++[(x,S.gone+1)]).length then{S with gone:=S.gone+1,Old:=(S.Old++[(x,S.gone+1)]).tail,P:=updOK S.P ((S.Old++[(x,S.gone+1)]).headD (0,0)).1 none}else{S with gone:=S.gone+1,Old:=S.Old++[(x,S.gone+1)]}):=rfl;have hl1:(S.Old++[(x,S.gone+1)]).length<900000:=by rw[List.length_append];have:=HLEN.out;simp;omega
 clear h2 f2 hF2 e1 e2 h2' hord h3 f12 hF2' c9 c10' lt1;generalize hl:S.Old++[(x,S.gone+1)]=l at*;have HL:=Hd hl;clear hl;have c9:w2.cell? ⟨lb,9,none⟩=some (.pointer (some ⟨q4,0,none⟩)):=H3.out.ce 9 (by omega);have c2:w2.cell? ⟨lb,2,none⟩=some (.int .i64 S.kept):=H3.out.ce 2 (by omega);have lt2:=H3.out.blk.lt;have HQL:Hid (∀W,Fr NoF w2 W->Calls prog 169 #[.pointer (some ⟨q4,0,none⟩)] W fun e w'=>e=.returned (.int .i64 (l.length:Nat))∧W=w'):=fun W f=>qk_len (H3.out.qk.fr0 f)
 by_cases hk:S.kept<l.length
 .have hki:(S.kept:Int)<(l.length:Int):=by omega
  obtain⟨p,l',rfl⟩:∃p l',l=p::l':=by
   cases l with
   |nil=>simp at hk
   |cons p l'=>exact⟨p,l',rfl⟩
  have hki2:(S.kept:Int)<(l'.length:Int)+1:=by rw[List.length_cons]at hki;omega
  go_wp2_with fail
  go_quiet ((go_at_call 169;(with_reducible exact qs (HQL.out _ (by first|exact Fr.refl _ _|exact(Fr.refl NoF w2).drew|exact(Fr.refl NoF w2).drewN _)))))
  have h4:=H3.out.fr0 ((Fr.refl NoF w2).drewN nq);have f4:=HF2.out.drewN nq;have hs4:w2.heap.size=(w2.drewN nq).heap.size:=rfl;clear HQL c9 c2 lt2;generalize w2.drewN nq=w3 at*;have H4:=Hd h4;have HF4:=Hd f4;have c9:w3.cell? ⟨lb,9,none⟩=some (.pointer (some ⟨q4,0,none⟩)):=h4.ce 9 (by omega);have lt3:=h4.blk.lt;have hp1:okN p.1:=(h4.ok.old p (by simp)).1;obtain⟨y,hly,HLy⟩:=qk_least h4.qk (by simp);obtain rfl:=oldK_least HORD2.out hly;have HD:=Hd (qk_drop h4.qk hp1);have HP1:=Hd hp1;have hcu:IntKind.u32.wrap (p.1:Int)=(p.1:Int):=IntWalk.u32_in _ (by unfold okN at hp1;omega);have hwf:=okN_wf hp1;clear h4 f4 hly hp1 hs4
  go_wp2_with fail
  refine(HLy.out _ (Fr.refl _ _)).mono ?_;rintro e w4⟨rfl,rfl⟩
  go_wp2_with fail
  refine HD.out.mono ?_;rintro e w5⟨rfl,hq,f5⟩;have e1:updKK (oldK (p::l')) p.1 none=oldK l':=(oldK_tail HORD2.out).symm;have e2:lessN (p::l').length (oldK (p::l') p.1).isSome=l'.length:=by rw[oldK_cons,if_pos rfl];simp[lessN]
  have hq':QK w5 q4 (oldK l') l'.length F4a:=by rw[<-e1,<-e2];exact hq
  have hS4:=H4.out.ok;have h5:=H4.out.newQ hq' f5 (fun i q=>.inl q) (fun r hr=>hS4.old r (by simp[hr])) (by have:=hS4.oldn;simp at this;show l'.length<=S.gone+1;omega) (List.pairwise_cons.1 HORD2.out).2;have H5:=Hd h5;have HF5:=Hd f5;have c5:w5.cell? ⟨lb,5,none⟩=some (.map (some mb)):=h5.ce 5 (by omega);have lt5:=h5.blk.lt;clear e1 e2 hq' hS4 h5 f5 hq c9;generalize(oldK (p::l') p.1).isSome=ob at*
  go_wp2_with(at_delete;go_must(refine wp_delV MVp H5.out.mp rfl _ _ rfl (by rfl) (by rfl) hwf ?_);intro w6 m1 m2;have KK:=Hd (H5.out.forget m1 m2);have KF:=Hd m2;clear m1 m2)
  go_returns;have gF:∀i,F4a i->LFK lb fb mb FC F4 i∨w.heap.size<=i:=fun i q=>(HG2.out i q).elim (fun z=>.inl (.inr (.inr (.inr (.inr z))))) .inr
  rw[HREM.out,if_pos hk];exact⟨rfl,_,F4a,KK.out,(HF4.out.trans HF5.out gF).trans KF.out (fun i q=>.inl (.inr (.inr (.inl q)))),HG2.out⟩
 .have hki:¬(S.kept:Int)<(l.length:Int):=by omega
  have hkd:decide ((S.kept:Int)<(l.length:Int))=false:=by simpa using hki
  go_wp2_with fail
  go_quiet ((go_at_call 169;(with_reducible exact qs (HQL.out _ (by first|exact Fr.refl _ _|exact(Fr.refl NoF w2).drew|exact(Fr.refl NoF w2).drewN _)))))
  go_wp2;go_returns;rw[HREM.out,if_neg hk];exact⟨rfl,ne,F4a,H3.out.fr0 ((Fr.refl NoF w2).drewN _),HF2.out.drewN _,HG2.out⟩
end
theorem touched_any{w:World}(last:Int)(t:Nat->Int)(now near:Int)(k:Nat)(hk:1<=k∧k<=8)(hb:0<=last∧last<=now∧now<100000000)(ht:∀j,0<=t j∧t j<=last∧t j<=t 0):Calls prog 153 #[pastV last t,.int .i64 now,.int .i64 near,.int .i64 k] w fun e w'=>e=.returned (pastV now (touchT last t now near k))∧Fr NoF w w':=by
 unfold touchT;by_cases h:¬last=0∧now-last<=near
 .rw[if_pos h]
  exact touched_near last t now near k h.1 h.2 hb
 .rw[if_neg h]
  exact touched_far last t now near k (by omega) hk hb ht
theorem touchT_ok(last:Int)(t:Nat->Int)(now near:Int)(k:Nat)(hb:0<=last∧last<=now)(ht:∀j,0<=t j∧t j<=last∧t j<=t 0):∀j,0<=touchT last t now near k j∧touchT last t now near k j<=now∧touchT last t now near k j<=touchT last t now near k 0:=by
 intro j;unfold touchT;by_cases h:¬last=0∧now-last<=near
 .rw[if_pos h]
  have:=ht j;omega
 .rw[if_neg h,upd_same]
  by_cases e:j=0
  .subst e;rw[upd_same];omega
  .rw[upd_other _ _ e]
   unfold timesF;have h1:=ht j;have h2:=ht (j-1);have h0:=ht 0
   split
   .split<;>omega
   .omega
def touS(S:LK)(pg:Nat):LK:=
 {S with T:=S.T+1,P:=updOK S.P pg (some (((S.T+1:Nat):Int),touchT (pastOf S pg).1 (pastOf S pg).2 ((S.T+1:Nat):Int) S.near S.k))}
def rerS(S:LK)(at':Nat):LK:=
 if(S.R at').isSome then{S with R:=updKK S.R at' (some (rankOf S (S.fr at').2)),Fa:=updB1 S.Fa at' false}else S
def comS(S:LK)(at' page:Nat):LK:=
 if(S.fr at').1 then S else{S with fr:=updF S.fr at' (true,page),Old:=woO S.Old page}
def accS(S:LK)(at' page:Nat):LK:=rerS (touS (comS S at' page) ((comS S at' page).fr at').2) at'
section
variable{w w':World}{lb fb mb q1 q2 q3 q4 ne:Nat}{S:LK}{FC F4:Nat->Prop}
theorem LM.touch(h:LM w lb S fb mb q1 q2 q3 q4 ne FC F4){w1 w2:World}{g1:Int}(hg1:g1=((S.T+1:Nat):Int))(h1:LM w1 lb {S with T:=S.T+1} fb mb q1 q2 q3 q4 ne FC F4){pg:Nat}
  (hm:MpV prog 32 .u32 zeroPast w2 mb (if(psM S.P (pg:Int)).isSome then ne else ne+1) (updV (psM S.P) (pg:Int) (some (pastV g1 (touchT (pastOf S pg).1 (pastOf S pg).2 g1 S.near S.k)))))(f:Fr (fun i=>i=mb) w1 w2):
  ∃ne',LM w2 lb (touS S pg) fb mb q1 q2 q3 q4 ne' FC F4:=by
 subst hg1;have e:=psM_upd S.P pg (some (((S.T+1:Nat):Int),touchT (pastOf S pg).1 (pastOf S pg).2 ((S.T+1:Nat):Int) S.near S.k));simp only[Option.map_some]at e;rw[e]at hm;have hp:=h.pastok pg;refine⟨_,h1.newMap hm f (by have:=h.ne;show _<=S.T+1;split<;>omega) (fun z p q=>?_)⟩;by_cases e:z=pg
 .subst e
  rw[updO_sameK]at q
  injection q with q
  subst q;exact⟨by show(0:Int)<=((S.T+1:Nat):Int);omega,Int.le_refl _,touchT_ok _ _ _ _ _ ⟨hp.1,by omega⟩ hp.2.2⟩
 .rw[updO_otherK _ _ e]at q
  exact h1.ok.past z p q
theorem access_full(h:LM w lb S fb mb q1 q2 q3 q4 ne FC F4){at' page:Nat}(ha:at'<S.n)(hp:okN page)(hT:S.T<900000)(hfu:(S.fr at').1=true):Calls prog 144 #[.pointer (some ⟨lb,0,none⟩),.int .i64 at',.int .u32 page] w fun e w'=>e=.returned (.tuple #[])∧∃ne' FC' F4',LM w' lb (accS S at' page) fb mb q1 q2 q3 q4 ne' FC' F4'∧Fr (LFK lb fb mb FC F4) w w'∧(∀i,FC' i->FC i∨w.heap.size<=i)∧∀i,F4' i->F4 i∨w.heap.size<=i:=by
 have HA:Hid (at'<S.n):=ha;have HI:=Hd (isFrame_calls h ha);have c4:w.cell? ⟨lb,4,none⟩=some (.slice (some ⟨fb,0,none⟩) S.n S.n):=h.ce 4 (by omega);have lt:=h.blk.lt;have lf:=h.frs.lt;have hfc:w.cell? ⟨fb,at'*2,none⟩=some (.bool true):=by rw[<-hfu];exact h.full ha
 have ha1:(at':Int)<S.n:=by omega
 have ha0:0<=(at':Int):=by omega
 have HFU:=Hd hfu;have H0:=Hd h;have HTT:=Hd hT;clear h hfu hT ha hp;go_enter func144,ntmps144
 go_wp2_with fail
 refine HI.out.mono ?_;rintro e w1⟨rfl,rfl⟩
 go_upto_region 5 with fail
 clear c4 hfc HI lt lf ha1 ha0;have hB:=H0.out;have hTB:=HTT.out;have HFRB:Hid (Fr (LFK lb fb mb FC F4) w w):=Fr.refl _ _;have HGB:Hid (∀i,F4 i->F4 i∨w.heap.size<=i):=fun i q=>.inl q
 have eAcc:Hid (accS S at' page=rerS (touS S (S.fr at').2) at'):=by unfold accS comS;rw[if_pos HFU.out];rfl
 obtain⟨g1,hg1⟩:∃g1:Int,g1=((S.T+1:Nat):Int):=⟨_,rfl⟩;have hw:IntKind.i64.wrap ((S.T:Int)+1)=g1:=by rw[show((S.T:Int)+1)=((S.T+1:Nat):Int)from by omega,hg1];exact IntWalk.i64_in _ (by omega)
 obtain⟨h1,f1⟩:=hB.tick (z:=g1) hg1;have HB:=Hd hB;have H1:=Hd h1;have HF1:=Hd f1;have HG1:=Hd hg1;have c3:w.cell? ⟨lb,3,none⟩=some (.int .i64 S.T):=hB.ce 3 (by omega);have lt:=hB.blk.lt;have fz:=hB.blk.frozen 3;have HTB:=Hd hTB;clear hB h1 f1 hg1 hTB
 go_upto_region 6 with fail
 generalize w.setCell ⟨lb,3,none⟩ (.int .i64 g1)=wC at*;clear c3 lt fz hw;obtain⟨PG,hPG⟩:∃PG,PG=(S.fr at').2:=⟨_,rfl⟩;have HPG:=Hd hPG;have c0:wC.cell? ⟨lb,0,none⟩=some (.int .i64 S.k):=H1.out.ce 0 (by omega);have c1:wC.cell? ⟨lb,1,none⟩=some (.int .i64 S.near):=H1.out.ce 1 (by omega);have c3:wC.cell? ⟨lb,3,none⟩=some (.int .i64 g1):=by rw[HG1.out];exact H1.out.ce 3 (by omega)
 have c5:wC.cell? ⟨lb,5,none⟩=some (.map (some mb)):=H1.out.ce 5 (by omega);have pgc:wC.cell? ⟨fb,at'*2+1,none⟩=some (.int .u32 (PG:Nat)):=by rw[hPG];exact H1.out.page HA.out
 have lt:=H1.out.blk.lt;have lf:=H1.out.frs.lt;have hpk:okN PG:=by rw[hPG];exact HB.out.ok.fr at'
 have HD:=Hd (H1.out.fr0 ((Fr.refl NoF wC).drew));have hwf:=okN_wf hpk;have hlk:(Instr.lookup 121 (.map (some mb)) (.int .u32 (PG:Nat)) false).run prog wC.drew=.ok (pastV (pastOf S PG).1 (pastOf S PG).2) wC.drew:=HD.out.look hpk;have hpo:=HB.out.pastok PG;have HT:Hid (∀W,Fr NoF wC W->Calls prog 153 #[pastV (pastOf S PG).1 (pastOf S PG).2,.int .i64 g1,.int .i64 S.near,.int .i64 S.k] W fun e w'=>e=.returned (pastV g1 (touchT (pastOf S PG).1 (pastOf S PG).2 g1 S.near S.k))∧Fr NoF wC w'):=fun W fW=>(touched_any _ _ _ _ _ HB.out.ok.k1 ⟨hpo.1,by rw[HG1.out];omega,by rw[HG1.out];have:=HTB.out;omega⟩ hpo.2.2).mono fun e w' ⟨he,hf⟩=>⟨he,fW.trans hf (fun _ q=>q.elim)⟩
 clear hpo hPG;have HPK:=Hd hpk;clear hpk;generalize hpv:pastV (pastOf S PG).1 (pastOf S PG).2=pv at*;have HPV:=Hd hpv;clear hpv;have HTV:Hid (pastV g1 (touchT (pastOf S PG).1 (pastOf S PG).2 g1 S.near S.k)=pastV g1 (touchT (pastOf S PG).1 (pastOf S PG).2 g1 S.near S.k)):=rfl;generalize htv:pastV g1 (touchT (pastOf S PG).1 (pastOf S PG).2 g1 S.near S.k)=tv at HT;have HTV2:=Hd htv;clear htv HTV
 have HC:Hid (∀W,Fr (fun i=>i=mb) wC W->W.cell? ⟨lb,0,none⟩=some (.int .i64 S.k)∧W.cell? ⟨lb,1,none⟩=some (.int .i64 S.near)∧W.cell? ⟨lb,3,none⟩=some (.int .i64 g1)∧W.cell? ⟨lb,5,none⟩=some (.map (some mb))∧W.cell? ⟨fb,at'*2+1,none⟩=some (.int .u32 (PG:Nat))):=fun W f=>
  ⟨(f.cell (p:=⟨lb,0,none⟩) H1.out.blk.lt (fun q=>H1.out.d2 q.symm)).trans c0,(f.cell (p:=⟨lb,1,none⟩) H1.out.blk.lt (fun q=>H1.out.d2 q.symm)).trans c1,(f.cell (p:=⟨lb,3,none⟩) H1.out.blk.lt (fun q=>H1.out.d2 q.symm)).trans c3,(f.cell (p:=⟨lb,5,none⟩) H1.out.blk.lt (fun q=>H1.out.d2 q.symm)).trans c5,(f.cell (p:=⟨fb,at'*2+1,none⟩) H1.out.frs.lt (fun q=>H1.out.d3 q.symm)).trans pgc⟩
 have hmx:ne<1000000:=by have:=HB.out.ne;have:=HTB.out;omega
 have HMX:=Hd hmx;clear hmx
 go_region_held3(fun w'=>w'.cell? ⟨lb,0,none⟩=some (.int .i64 S.k)∧w'.cell? ⟨lb,1,none⟩=some (.int .i64 S.near)∧w'.cell? ⟨lb,3,none⟩=some (.int .i64 g1)∧w'.cell? ⟨lb,5,none⟩=some (.map (some mb))∧w'.cell? ⟨fb,at'*2+1,none⟩=some (.int .u32 (PG:Nat)))
  (exact HC.out _ (by repeat(first|exact FM.out|exact FT.out.none|exact Fr.refl _ _|apply Fr.drew)))
  (first
  |(go_at_call 153;(with_reducible refine(HT.out _ (by repeat(first|exact Fr.refl NoF _|apply Fr.drew))).mono ?_);rintro e wT⟨rfl,fT⟩;obtain⟨wM,hrun,m1,m2⟩:=(H1.out.fr0 fT).mp.put_run MVp HMX.out hwf tv;have KM:=Hd m1;have KF:=Hd m2;have FT:=Hd fT;have FM:Hid (Fr (fun i=>i=mb) wC wM):=fT.none.trans m2 (fun _ q=>.inl q);clear fT m1 m2))
 go_wp2_with fail
 obtain⟨ne2,h2⟩:=HB.out.touch HG1.out (H1.out.fr0 FT.out) (pg:=PG) (by rw[HTV2.out];exact KM.out) KF.out;have hfM:Fr (LFK lb fb mb FC F4) w wM:=(HFRB.out.trans HF1.out (fun i q=>.inl (.inl q))).trans FM.out (fun i q=>.inl (.inr (.inr (.inl q))));obtain⟨S2,hS2⟩:∃S2,S2=touS S PG:=⟨_,rfl⟩;have e1:S2.fr=S.fr:=by rw[hS2];rfl
 have e2:S2.n=S.n:=by rw[hS2];rfl
 have e3:S2.T<1000000:=by rw[hS2];show S.T+1<1000000;have:=HTB.out;omega
 have ha2:at'<S2.n:=by rw[e2];exact HA.out
 have hEA:accS S at' page=rerS S2 at':=by rw[eAcc.out,hS2,HPG.out]
 rw[<-hS2]at h2;have hpg2:(S2.fr at').2=PG:=by rw[e1];exact HPG.out.symm
 have HEA:=Hd hEA;have H2:=Hd h2;have HFM:=Hd hfM;have HE3:=Hd e3;have HA2:=Hd ha2;have HPG2:=Hd hpg2;have hat:okN at':=by have:=h2.ok.n1;unfold okN;omega
 have HAT:=Hd hat;have HH:=Hd (cc_has h2.cc hat);clear c0 c1 c3 c5 pgc lt lf hlk hwf hrun HT HC KM KF FT FM HB H1 HTV2 HPV HFRB hS2 e1 e2 e3 ha2 hEA h2 hpg2 hat hfM HG1 HTB HF1 HPG eAcc;refine HH.out.mono ?_;rintro e wN⟨rfl,fN⟩;have h3:=H2.out.fr0 fN;have H3:=Hd h3;have HFN:Hid (Fr (LFK lb fb mb FC F4) w wN):=HFM.out.trans fN (fun _ q=>q.elim);have pgc:wN.cell? ⟨fb,at'*2+1,none⟩=some (.int .u32 (PG:Nat)):=by rw[<-HPG2.out];exact h3.page HA2.out
 have lt:=h3.blk.lt;have lf:=h3.frs.lt;clear h3 fN HH
 cases hR:(S2.R at').isSome with
 |false=>
  have HR:=Hd hR;clear hR;go_wp2;go_returns;rw[HEA.out];unfold rerS;rw[if_neg (by rw[HR.out];simp)];exact⟨rfl,ne2,FC,F4,H3.out,HFN.out,fun i q=>.inl q,HGB.out⟩
 |true=>
  have HR:=Hd hR;clear hR;have hrk:=H3.out.pastok PG
  have hk8:0<=(rankOf S2 PG).1∧(rankOf S2 PG).1<=S2.T∧0<=(rankOf S2 PG).2∧(rankOf S2 PG).2<=S2.T:=by
   have:=hrk.2.2 (S2.k-1);unfold rankOf;simp only;omega
  have HRK:=Hd hk8;have HCR:Hid (∀W,Fr NoF wN W->Calls prog 156 #[.pointer (some ⟨lb,0,none⟩),.int .u32 PG] W fun e w'=>e=.returned (.agg #[.int .i64 (rankOf S2 PG).1,.int .i64 (rankOf S2 PG).2])∧Fr NoF wN w'):=fun W f=>(rank_calls (H3.out.fr0 f) HPK.out).mono fun e w' ⟨he,hf⟩=>⟨he,f.trans hf (fun _ q=>q.elim)⟩
  clear hrk hk8;generalize hr1:(rankOf S2 PG).1=r1 at*;generalize hr2:(rankOf S2 PG).2=r2 at*;have HR1:=Hd hr1;have HR2:=Hd hr2;clear hr1 hr2;have HC2:Hid (∀W,Fr NoF wN W->W.cell? ⟨fb,at'*2+1,none⟩=some (.int .u32 (PG:Nat))):=fun W f=>by rw[<-HPG2.out];exact(H3.out.fr0 f).page HA2.out
  have HP:Hid (∀W,Fr NoF wN W->Calls prog 155 #[.pointer (some ⟨lb,6,none⟩),.int .i64 at',.agg #[.int .i64 r1,.int .i64 r2]] W fun e w'=>e=.returned (.tuple #[])∧∃FC',LM w' lb {S2 with R:=updKK S2.R at' (some (r1,r2)),Fa:=updB1 S2.Fa at' false,t:=S2.t} fb mb q1 q2 q3 q4 ne2 FC' F4∧Fr FC wN w'∧(∀i,FC' i->FC i∨wN.heap.size<=i)∧w'.cell? ⟨fb,at'*2+1,none⟩=some (.int .u32 (PG:Nat))):=fun W f=>by
   have h5:=H3.out.fr0 f;refine(cc_put h5.cc HAT.out (a:=r1) (b:=r2) (i64_in (by have:=HRK.out;have:=HE3.out;omega)) (i64_in (by have:=HRK.out;have:=HE3.out;omega)) (by have:=h5.ok.tle;have:=h5.ok.n1;omega)).mono ?_;rintro e wP⟨he,FC',hc,fP,hFC⟩;rw[HR.out]at hc;have h6:=h5.newCC hc fP hFC (by show moreN S2.t true=cntR (updKK S2.R at' (some (r1,r2))) S2.n;rw[cntR_put _ _ HA2.out,HR.out,<-H3.out.ok.tn]);exact⟨he,FC',h6,f.none.trans fP (fun i q=>.inl q),fun i q=>(hFC i q).elim .inl (fun z=>.inr (Nat.le_trans f.size z)),by rw[<-HPG2.out];exact h6.page HA2.out⟩
  go_wp2_with fail
  go_region_held3(fun w'=>w'.cell? ⟨fb,at'*2+1,none⟩=some (.int .u32 (PG:Nat)))
   (first|exact HPP.out|exact HC2.out _ (by repeat(first|exact FR.out|exact Fr.refl NoF _|apply Fr.drew)))
   (first
   |(go_at_call 156;(with_reducible refine(HCR.out _ (by repeat(first|exact Fr.refl NoF _|apply Fr.drew))).mono ?_);rintro e wR⟨rfl,fR⟩;have FR:=Hd fR;clear fR)
   |(go_at_call 155;(with_reducible refine(HP.out _ (by repeat(first|exact FR.out|apply Fr.drew))).mono ?_);rintro e wP⟨rfl,FC',h6,fP,hFC,hpp⟩;have HPP:=Hd hpp;have H6:=Hd h6;have FP:=Hd fP;have HFC:=Hd hFC;clear h6 fP hFC hpp))
  go_wp2;go_returns;rw[HEA.out];unfold rerS;rw[if_pos HR.out,HPG2.out]
  exact⟨rfl,ne2,FC',F4,by
   have:=H6.out;rw[<-HR1.out,<-HR2.out]at this;exact this,HFN.out.trans FP.out (fun i q=>.inl (.inr (.inr (.inr (.inl q))))),fun i q=>(HFC.out i q).elim .inl (fun z=>.inr (Nat.le_trans HFN.out.size z)),HGB.out⟩
end
end
end Go.Proofs.YtipopinjppjnfaaGreatDoor
