/- Part 13. -/
import Derived.Test.YtcccbdnojlmgaaaK12
namespace Go.Proofs.Ytcccbdnojlmgaaa
set_option linter.all false
set_option maxHeartbeats 16000000
set_option maxRecDepth 100000
section
open Go.Maps Go.RowKit
def updF(f:Nat->Bool×Nat)(x:Nat)(p:Bool×Nat):Nat->Bool×Nat:=fun i=>if i=x then p else f i
theorem updF_same(f:Nat->Bool×Nat)(x:Nat)(p:Bool×Nat):updF f x p x=p:=if_pos rfl
theorem updF_other(f:Nat->Bool×Nat){x z:Nat}(p:Bool×Nat)(h:¬z=x):updF f x p z=f z:=if_neg h
section
variable{w w':World}{lb fb mb q1 q2 q3 q4 ne:Nat}{S:LK}{FC F4:Nat->Prop}
theorem LM.newFr(h:LM w lb S fb mb q1 q2 q3 q4 ne FC F4){f':Nat->Bool×Nat}(hb:Blk w' fb (2*S.n) (frC f'))(f:Fr (fun i=>i=fb) w w')(hok:∀i,okN (f' i).2):LM w' lb {S with fr:=f'} fb mb q1 q2 q3 q4 ne FC F4:=
 ⟨h.blk.fr f (fun q=>h.d1 q.symm),hb,h.mp.fr f h.d3,h.cc.fr f (fun i q e=>h.d4 (e▸q)) (fun q=>h.d1 q.symm),h.qk.fr f (fun i q e=>h.d7 (e▸q)),h.d1,h.d2,h.d3,h.d4,h.d5,h.d6,h.d7,h.d8,h.d9,h.ne,⟨h.ok.n1,h.ok.k1,h.ok.near,h.ok.kept,hok,h.ok.past,h.ok.tn,h.ok.old,h.ok.oldn,h.ok.ord⟩⟩
theorem LM.newCC(h:LM w lb S fb mb q1 q2 q3 q4 ne FC F4){R':Nat->Option (Int×Int)}{Fa':Nat->Bool}{t':Nat}{FC':Nat->Prop}(hc:CC w' lb R' Fa' t' FC')(f:Fr FC w w')(hF:∀i,FC' i->FC i∨w.heap.size<=i)(ht:t'=cntR R' S.n):LM w' lb {S with R:=R',Fa:=Fa',t:=t'} fb mb q1 q2 q3 q4 ne FC' F4:=by
 have l1:=h.blk.lt;have l2:=h.frs.lt;have l3:=h.mp.lt;have l4:=h.qk.lt;exact⟨h.blk.fr f h.cc.notl,h.frs.fr f h.d4,h.mp.fr f h.d5,hc,h.qk.fr f (fun i q q'=>h.d9 i q' q),h.d1,h.d2,h.d3,fun q=>(hF _ q).elim h.d4 (fun z=>by omega),fun q=>(hF _ q).elim h.d5 (fun z=>by omega),h.d6,h.d7,h.d8,fun i q q'=>(hF i q).elim (fun z=>h.d9 i z q') (fun z=>by have:=l4 i q';omega),h.ne,⟨h.ok.n1,h.ok.k1,h.ok.near,h.ok.kept,h.ok.fr,h.ok.past,ht,h.ok.old,h.ok.oldn,h.ok.ord⟩⟩
theorem LM.newQ(h:LM w lb S fb mb q1 q2 q3 q4 ne FC F4){l':List (Nat×Nat)}{F4':Nat->Prop}(hq:QK w' q4 (oldK l') l'.length F4')(f:Fr F4 w w')(hF:∀i,F4' i->F4 i∨w.heap.size<=i)(ho:∀p,p∈l'->okN p.1∧p.2<=S.gone)(hn:l'.length<=S.gone)(hord:l'.Pairwise fun p q=>p.2<q.2∧¬p.1=q.1):LM w' lb {S with Old:=l'} fb mb q1 q2 q3 q4 ne FC F4':=by
 have l1:=h.blk.lt;have l2:=h.frs.lt;have l3:=h.mp.lt;have l4:=h.cc.lt;exact⟨h.blk.fr f h.d6,h.frs.fr f h.d7,h.mp.fr f h.d8,h.cc.fr f h.d9 h.d6,hq,h.d1,h.d2,h.d3,h.d4,h.d5,fun q=>(hF _ q).elim h.d6 (fun z=>by omega),fun q=>(hF _ q).elim h.d7 (fun z=>by omega),fun q=>(hF _ q).elim h.d8 (fun z=>by omega),fun i q q'=>(hF i q').elim (fun z=>h.d9 i q z) (fun z=>by have:=l4 i q;omega),h.ne,⟨h.ok.n1,h.ok.k1,h.ok.near,h.ok.kept,h.ok.fr,h.ok.past,h.ok.tn,ho,hn,hord⟩⟩
theorem LM.newMap(h:LM w lb S fb mb q1 q2 q3 q4 ne FC F4){P':Nat->Option (Int×(Nat->Int))}{ne':Nat}(hm:MpV Try.prog 35 .u32 zeroPast w' mb ne' (psM P'))(f:Fr (fun i=>i=mb) w w')(hn:ne'<=S.T)(hp:∀x p,P' x=some p->0<=p.1∧p.1<=S.T∧∀j,0<=p.2 j∧p.2 j<=p.1∧p.2 j<=p.2 0):LM w' lb {S with P:=P'} fb mb q1 q2 q3 q4 ne' FC F4:=
 ⟨h.blk.fr f (fun q=>h.d2 q.symm),h.frs.fr f (fun q=>h.d3 q.symm),hm,h.cc.fr f (fun i q e=>h.d5 (e▸q)) (fun q=>h.d2 q.symm),h.qk.fr f (fun i q e=>h.d8 (e▸q)),h.d1,h.d2,h.d3,h.d4,h.d5,h.d6,h.d7,h.d8,h.d9,hn,⟨h.ok.n1,h.ok.k1,h.ok.near,h.ok.kept,h.ok.fr,hp,h.ok.tn,h.ok.old,h.ok.oldn,h.ok.ord⟩⟩
theorem CC.set{R:Nat->Option (Int×Int)}{Fa:Nat->Bool}{t:Nat}{F:Nat->Prop}{c:Nat->Value}(h:CC w lb R Fa t F)(hb:Blk w lb 11 c){i:Nat}(hi:¬i=6∧¬i=7∧¬i=8)(v:Value):CC (w.setCell ⟨lb,i,none⟩ v) lb R Fa t F:=by
 have hn:=h.notl;obtain⟨p1,p2,p3,nf,nr,F1,F2,F3,h,ht,hF⟩:=h;have f:Fr (fun z=>z=lb) w (w.setCell ⟨lb,i,none⟩ v):=(Fr.refl (fun z=>z=lb) w).setCell (p:=⟨lb,i,none⟩) (.inl rfl) v;have hb2:=hb.set i v
 have e6:(w.setCell ⟨lb,i,none⟩ v).cell? ⟨lb,6,none⟩=w.cell? ⟨lb,6,none⟩:=by
  rw[hb2.cell (i:=6) (by omega),hb.cell (i:=6) (by omega),upd_other _ _ (by omega)]
 have e7:(w.setCell ⟨lb,i,none⟩ v).cell? ⟨lb,7,none⟩=w.cell? ⟨lb,7,none⟩:=by
  rw[hb2.cell (i:=7) (by omega),hb.cell (i:=7) (by omega),upd_other _ _ (by omega)]
 have e8:(w.setCell ⟨lb,i,none⟩ v).cell? ⟨lb,8,none⟩=w.cell? ⟨lb,8,none⟩:=by
  rw[hb2.cell (i:=8) (by omega),hb.cell (i:=8) (by omega),upd_other _ _ (by omega)]
 exact⟨p1,p2,p3,nf,nr,F1,F2,F3,⟨e6.trans h.p6,e7.trans h.p7,e8.trans h.p8,Nat.lt_of_lt_of_le h.lt f.size,h.h1.fr f (fun i q e=>h.n1 (e▸q)),h.h2.fr f (fun i q e=>h.n2 (e▸q)),h.h3.fr f (fun i q e=>h.n3 (e▸q)),h.d12,h.d13,h.d23,h.n1,h.n2,h.n3,h.ok⟩,ht,hF⟩
theorem LM.tick(h:LM w lb S fb mb q1 q2 q3 q4 ne FC F4){z:Int}(hz:z=((S.T+1:Nat):Int)):LM (w.setCell ⟨lb,3,none⟩ (.int .i64 z)) lb {S with T:=S.T+1} fb mb q1 q2 q3 q4 ne FC F4∧Fr (fun i=>i=lb) w (w.setCell ⟨lb,3,none⟩ (.int .i64 z)):=by
 subst hz;have f:Fr (fun z=>z=lb) w (w.setCell ⟨lb,3,none⟩ (.int .i64 ((S.T+1:Nat):Int))):=(Fr.refl (fun z=>z=lb) w).setCell (p:=⟨lb,3,none⟩) (.inl rfl) _;refine⟨⟨(h.blk.set 3 _).congr (fun i hi=>?_),h.frs.fr f h.d1,h.mp.fr f h.d2,h.cc.set h.blk (by omega) _,h.qk.fr f (fun i q e=>h.d6 (e▸q)),h.d1,h.d2,h.d3,h.d4,h.d5,h.d6,h.d7,h.d8,h.d9,Nat.le_succ_of_le h.ne,⟨h.ok.n1,h.ok.k1,h.ok.near,h.ok.kept,h.ok.fr,fun x p q=>?_,h.ok.tn,h.ok.old,h.ok.oldn,h.ok.ord⟩⟩,f⟩
 .match i,hi with
  |0,_|1,_|2,_|3,_|4,_|5,_|6,_|7,_|8,_|9,_|10,_=>rfl
 .obtain⟨a,b,c⟩:=h.ok.past x p q
  exact⟨a,by show p.1<=((S.T+1:Nat):Int);omega,c⟩
theorem LM.goes(h:LM w lb S fb mb q1 q2 q3 q4 ne FC F4){z:Int}(hz:z=((S.gone+1:Nat):Int)):LM (w.setCell ⟨lb,10,none⟩ (.int .i64 z)) lb {S with gone:=S.gone+1} fb mb q1 q2 q3 q4 ne FC F4∧Fr (fun i=>i=lb) w (w.setCell ⟨lb,10,none⟩ (.int .i64 z)):=by
 subst hz;have f:Fr (fun z=>z=lb) w (w.setCell ⟨lb,10,none⟩ (.int .i64 ((S.gone+1:Nat):Int))):=(Fr.refl (fun z=>z=lb) w).setCell (p:=⟨lb,10,none⟩) (.inl rfl) _;refine⟨⟨(h.blk.set 10 _).congr (fun i hi=>?_),h.frs.fr f h.d1,h.mp.fr f h.d2,h.cc.set h.blk (by omega) _,h.qk.fr f (fun i q e=>h.d6 (e▸q)),h.d1,h.d2,h.d3,h.d4,h.d5,h.d6,h.d7,h.d8,h.d9,h.ne,⟨h.ok.n1,h.ok.k1,h.ok.near,h.ok.kept,h.ok.fr,h.ok.past,h.ok.tn,fun p q=>⟨(h.ok.old p q).1,Nat.le_succ_of_le (h.ok.old p q).2⟩,Nat.le_succ_of_le h.ok.oldn,h.ok.ord⟩⟩,f⟩
 match i,hi with
 |0,_|1,_|2,_|3,_|4,_|5,_|6,_|7,_|8,_|9,_|10,_=>rfl
theorem frC_full(f:Nat->Bool×Nat)(x:Nat)(b:Bool):upd (frC f) (x*2) (.bool b)=frC (updF f x (b,(f x).2)):=by
 funext i
 unfold upd frC updF;by_cases e:i=x*2
 .subst e;rw[if_pos rfl,if_pos (by omega),show x*2/2=x from by omega,if_pos rfl]
 .rw[if_neg e]
  by_cases e2:i/2=x
  .rw[if_neg (by omega),if_neg (by omega),if_pos e2,e2]
  .rw[if_neg e2]
theorem frC_both(f:Nat->Bool×Nat)(x:Nat)(b:Bool)(p:Nat):upd (upd (frC f) (x*2) (.bool b)) (x*2+1) (.int .u32 p)=frC (updF f x (b,p)):=by
 funext i
 unfold upd frC updF;by_cases e:i=x*2
 .subst e;rw[if_neg (by omega),if_pos rfl,if_pos (by omega),show x*2/2=x from by omega,if_pos rfl]
 .by_cases e3:i=x*2+1
  .subst e3;rw[if_pos rfl,if_neg (by omega),show(x*2+1)/2=x from by omega,if_pos rfl]
  .rw[if_neg e3,if_neg e,if_neg (show¬i/2=x by omega)]
theorem empty_calls(h:LM w lb S fb mb q1 q2 q3 q4 ne FC F4){at':Nat}(ha:at'<S.n):Calls Try.prog 36 #[.pointer (some ⟨lb,0,none⟩),.int .i64 at'] w fun e w'=>e=.returned (.tuple #[])∧
  LM w' lb {S with fr:=updF S.fr at' (false,(S.fr at').2),R:=updK S.R at' none,t:=lessN S.t (S.R at').isSome} fb mb q1 q2 q3 q4 ne FC F4∧Fr (fun i=>i=fb∨FC i) w w':=by
 have hx:okN at':=by have:=h.ok.n1;unfold okN;omega
 have fA:Fr (fun i=>i=fb) w (w.setCell ⟨fb,at'*2,none⟩ (.bool false)):=(Fr.refl (fun z=>z=fb) w).setCell (p:=⟨fb,at'*2,none⟩) (.inl rfl) _;have hb:=h.frs.set (at'*2) (.bool false);rw[frC_full]at hb
 have h2:=h.newFr hb fA (fun i=>by
  unfold updF
  split
  .exact h.ok.fr at'
  .exact h.ok.fr i)
 have HC:=Lib.hid (cc_drop h2.cc hx);have H2:=Lib.hid h2;have HFA:=Lib.hid fA;have c4:w.cell? ⟨lb,4,none⟩=some (.slice (some ⟨fb,0,none⟩) S.n S.n):=h.ce 4 (by omega);have lt:=h.blk.lt;have lf:=h.frs.lt;have hfu:=h.full ha;have fz:=h.frs.frozen (at'*2);have h1:(at':Int)<S.n:=by omega
 have h0:0<=(at':Int):=by omega
 have HTN:=Lib.hid h.ok.tn;have HAT:Hid (at'<S.n):=ha;clear h h2 hb fA hx;generalize(S.fr at').1=fu at*;go_enter Try.func36,Try.ntmps36
 go_wp2_with fail
 refine HC.out.mono ?_;rintro e w1⟨rfl,hc,f1⟩;have h3:=H2.out.newCC hc f1 (fun i q=>.inl q) (by show lessN S.t (S.R at').isSome=cntR (updK S.R at' none) S.n;rw[cntR_drop _ HAT.out,<-HTN.out]);have H3:=Lib.hid h3;have HF1:=Lib.hid f1;clear h3 f1 hc;go_wp2;go_returns;exact⟨rfl,H3.out,(HFA.out.mono (fun _ q=>.inl q)).trans HF1.out (fun _ q=>.inl (.inr q))⟩
end
def woO(l:List (Nat×Nat))(x:Nat):List (Nat×Nat):=l.filter fun p=>!decide (p.1=x)
theorem oldK_cons(p:Nat×Nat)(l:List (Nat×Nat))(z:Nat):oldK (p::l) z=if p.1=z then some ((p.2:Int),0)else oldK l z:=by
 unfold oldK;rw[List.find?_cons];by_cases e:p.1=z
 .simp[e]
 .simp[e]
theorem oldK_none{l:List (Nat×Nat)}{z:Nat}:oldK l z=none↔∀p,p∈l->¬p.1=z:=by
 induction l with
 |nil=>simp[oldK]
 |cons p l ih=>
  rw[oldK_cons];by_cases e:p.1=z
  .rw[if_pos e]
   exact⟨fun q=>(by cases q),fun q=>absurd e (q p (by simp))⟩
  .rw[if_neg e,ih]
   exact⟨fun q r hr=>by
    rcases List.mem_cons.1 hr with rfl|hr
    .exact e
    .exact q r hr,fun q r hr=>q r (by simp[hr])⟩
theorem woO_cons(p:Nat×Nat)(l:List (Nat×Nat))(x:Nat):woO (p::l) x=if p.1=x then woO l x else p::woO l x:=by
 unfold woO;rw[List.filter_cons];by_cases e:p.1=x
 .simp[e]
 .simp[e]
theorem oldK_wo(l:List (Nat×Nat))(x:Nat):oldK (woO l x)=updK (oldK l) x none:=by
 funext z
 induction l with
 |nil=>unfold updK woO oldK;simp
 |cons p l ih=>
  rw[woO_cons];by_cases e:p.1=x
  .rw[if_pos e,ih]
   unfold updK;by_cases e2:z=x
   .rw[if_pos e2,if_pos e2]
   .rw[if_neg e2,if_neg e2,oldK_cons,if_neg (by omega)]
  .rw[if_neg e,oldK_cons,ih]
   unfold updK;by_cases e2:z=x
   .rw[if_pos e2,if_pos e2,if_neg (by omega)]
   .rw[if_neg e2,if_neg e2,oldK_cons]
def OrdO(l:List (Nat×Nat)):Prop:=l.Pairwise fun p q=>p.2<q.2∧¬p.1=q.1
theorem woO_len{l:List (Nat×Nat)}(h:OrdO l)(x:Nat):(woO l x).length=lessN l.length (oldK l x).isSome:=by
 induction l with
 |nil=>rfl
 |cons p l ih=>
  obtain⟨h1,h2⟩:=List.pairwise_cons.1 h;rw[woO_cons,oldK_cons];by_cases e:p.1=x
  .rw[if_pos e,if_pos e,ih h2]
   have:oldK l x=none:=oldK_none.2 (fun q hq e2=>(h1 q hq).2 (by omega));rw[this];simp[lessN]
  .rw[if_neg e,if_neg e,List.length_cons,ih h2]
   cases e3:oldK l x with
   |none=>simp[lessN]
   |some y=>
    have:l≠[]:=by rintro rfl;simp[oldK]at e3
    have:=List.length_pos_iff.2 this;simp[lessN];omega
theorem woO_ord{l:List (Nat×Nat)}(h:OrdO l)(x:Nat):OrdO (woO l x):=List.Pairwise.filter _ h
theorem woO_mem{l:List (Nat×Nat)}{x:Nat}{p:Nat×Nat}(h:p∈woO l x):p∈l∧¬p.1=x:=by
 have:=List.mem_filter.1 h;exact⟨this.1,by simpa using this.2⟩
theorem oldK_app{l:List (Nat×Nat)}{x:Nat}(h:oldK l x=none)(g:Nat):oldK (l++[(x,g)])=updK (oldK l) x (some ((g:Int),0)):=by
 funext z
 induction l with
 |nil=>
  rw[List.nil_append,oldK_cons];unfold updK;by_cases e:z=x
  .subst e;simp
  .rw[if_neg (fun q=>e q.symm),if_neg e]
 |cons p l ih=>
  rw[oldK_cons]at h;by_cases e:p.1=x
  .rw[if_pos e]at h;cases h
  .rw[if_neg e]at h
   rw[List.cons_append,oldK_cons,ih h];unfold updK;by_cases e2:z=x
   .rw[if_pos e2,if_pos e2,if_neg (by omega)]
   .rw[if_neg e2,if_neg e2,oldK_cons]
theorem ord_app{l:List (Nat×Nat)}{x g:Nat}(h:OrdO l)(hn:oldK l x=none)(hg:∀p,p∈l->p.2<g):OrdO (l++[(x,g)]):=by
 refine List.pairwise_append.2 ⟨h,by simp,fun p hp q hq=>?_⟩;obtain rfl:q=(x,g):=by simpa using hq
 exact⟨hg p hp,oldK_none.1 hn p hp⟩
theorem oldK_mem{l:List (Nat×Nat)}{z:Nat}{a b:Int}(h:oldK l z=some (a,b)):∃g:Nat,(z,g)∈l∧a=g∧b=0:=by
 unfold oldK at h
 cases e:l.find? (fun p=>decide (p.1=z))with
 |none=>rw[e]at h;cases h
 |some p=>
  rw[e]at h;have h1:=List.mem_of_find?_eq_some e;have h2:=List.find?_some e;simp at h2
  injection h with h
  injection h with h3 h4
  exact⟨p.2,by rw[<-h2];exact h1,h3.symm,h4.symm⟩
theorem oldK_least{p:Nat×Nat}{l:List (Nat×Nat)}(h:OrdO (p::l)){x:Nat}(hx:LeastK (oldK (p::l)) x):x=p.1:=by
 obtain⟨a,b,h1,h2⟩:=hx;obtain⟨g,hm,rfl,rfl⟩:=oldK_mem h1;have h3:=h2 p.1 p.2 0 (by rw[oldK_cons,if_pos rfl]);rcases List.mem_cons.1 hm with q|q
 .exact(congrArg Prod.fst q)
 .have:=((List.pairwise_cons.1 h).1 _ q).1
  simp only at this;omega
theorem oldK_tail{p:Nat×Nat}{l:List (Nat×Nat)}(h:OrdO (p::l)):oldK l=updK (oldK (p::l)) p.1 none:=by
 have e:woO (p::l) p.1=l:=by
  rw[woO_cons,if_pos rfl];unfold woO;refine List.filter_eq_self.2 (fun q hq=>?_);have:=((List.pairwise_cons.1 h).1 q hq).2;simp;omega
 rw[<-oldK_wo,e]
def remS(S:LK)(x:Nat):LK:=
 if S.kept<(S.Old++[(x,S.gone+1)]).length then{S with gone:=S.gone+1,Old:=(S.Old++[(x,S.gone+1)]).tail,P:=updO S.P ((S.Old++[(x,S.gone+1)]).headD (0,0)).1 none}
 else{S with gone:=S.gone+1,Old:=S.Old++[(x,S.gone+1)]}
section
variable{w w':World}{lb fb mb q1 q2 q3 q4 ne:Nat}{S:LK}{FC F4:Nat->Prop}
theorem LM.pastok(h:LM w lb S fb mb q1 q2 q3 q4 ne FC F4)(x:Nat):0<=(pastOf S x).1∧(pastOf S x).1<=S.T∧∀j,0<=(pastOf S x).2 j∧(pastOf S x).2 j<=(pastOf S x).1∧(pastOf S x).2 j<=(pastOf S x).2 0:=by
 unfold pastOf
 cases e:S.P x with
 |none=>exact⟨by simp,by simp,fun j=>by simp⟩
 |some p=>exact h.ok.past x p e
theorem LM.look(h:LM w lb S fb mb q1 q2 q3 q4 ne FC F4){x:Nat}(hx:okN x):(Instr.lookup 45 (.map (some mb)) (.int .u32 (x:Nat)) false).run Try.prog w=.ok (pastV (pastOf S x).1 (pastOf S x).2) w:=by
 have:=h.mp.look_run MVp (okN_wf hx);rw[psM_at]at this;rw[this];unfold pastOf
 cases S.P x<;>rfl
theorem rank_calls(h:LM w lb S fb mb q1 q2 q3 q4 ne FC F4){x:Nat}(hx:okN x):Calls Try.prog 32 #[.pointer (some ⟨lb,0,none⟩),.int .u32 x] w fun e w'=>e=.returned (.agg #[.int .i64 (rankOf S x).1,.int .i64 (rankOf S x).2])∧Fr NoF w w':=by
 unfold rankOf;have hk:=h.ok.k1;have fA:Fr NoF w (w.alloc (.cells #[.int .i64 0,.int .i64 0] 89)):=(Fr.refl NoF w).alloc _;have hlk:=(h.fr0 fA).look hx;have c5:(w.alloc (.cells #[.int .i64 0,.int .i64 0] 89)).cell? ⟨lb,5,none⟩=some (.map (some mb)):=(h.fr0 fA).ce 5 (by omega);have lt:=h.blk.lt;generalize(pastOf S x).1=last at*;generalize(pastOf S x).2=t at*;have fB:Fr NoF w ((w.alloc (.cells #[.int .i64 0,.int .i64 0] 89)).alloc (.cells #[.int .i64 last,.int .i64 (t 0),.int .i64 (t 1),.int .i64 (t 2),.int .i64 (t 3),.int .i64 (t 4),.int .i64 (t 5),.int .i64 (t 6),.int .i64 (t 7)] 85)):=fA.alloc _
 have b1:Blk ((w.alloc (.cells #[.int .i64 0,.int .i64 0] 89)).alloc (.cells #[.int .i64 last,.int .i64 (t 0),.int .i64 (t 1),.int .i64 (t 2),.int .i64 (t 3),.int .i64 (t 4),.int .i64 (t 5),.int .i64 (t 6),.int .i64 (t 7)] 85)) w.heap.size 2 (fun _=>.int .i64 0):=(Blk.new w _ 89 2 _ _ rfl rfl (fun i hi=>by
  match i,hi with
  |0,_|1,_=>rfl)).alloc _
 have b2:Blk ((w.alloc (.cells #[.int .i64 0,.int .i64 0] 89)).alloc (.cells #[.int .i64 last,.int .i64 (t 0),.int .i64 (t 1),.int .i64 (t 2),.int .i64 (t 3),.int .i64 (t 4),.int .i64 (t 5),.int .i64 (t 6),.int .i64 (t 7)] 85)) (w.heap.size+1) 9 (pastC last t):=Blk.new _ _ 85 9 _ _ (by simp) rfl (fun i hi=>by
  match i,hi with
  |0,_|1,_|2,_|3,_|4,_|5,_|6,_|7,_|8,_=>rfl)
 have d0:((w.alloc (.cells #[.int .i64 0,.int .i64 0] 89)).alloc (.cells #[.int .i64 last,.int .i64 (t 0),.int .i64 (t 1),.int .i64 (t 2),.int .i64 (t 3),.int .i64 (t 4),.int .i64 (t 5),.int .i64 (t 6),.int .i64 (t 7)] 85)).cell? ⟨lb,0,none⟩=some (.int .i64 S.k):=(h.fr0 fB).ce 0 (by omega);have x0:=b2.cell (i:=0) (by omega);have x1:=b2.cell (i:=1+(S.k-1)) (by omega);rw[show pastC last t (1+(S.k-1))=.int .i64 (t (S.k-1))from by unfold pastC;rw[if_neg (by omega),show 1+(S.k-1)-1=S.k-1 from by omega],show 1+(S.k-1)=S.k from by omega]at x1;rw[show pastC last t 0=.int .i64 last from rfl]at x0;have fz0:=b1.frozen 0;have fz1:=b1.frozen 1;have l1:=b1.lt;have l2:=b2.lt;have lw:=(h.fr0 fB).blk.lt;have HB1:=Lib.hid b1;have HFB:=Lib.hid fB;have hw:IntKind.i64.wrap ((S.k:Int)-1)=((S.k-1:Nat):Int):=by rw[show((S.k:Int)-1)=((S.k-1:Nat):Int)from by omega];exact IntWalk.i64_in _ (by omega)
 have hk1:0<=((S.k-1:Nat):Int):=by omega
 have hk2:((S.k-1:Nat):Int)<8:=by omega
 have hk3:(((S.k-1:Nat):Int)).toNat=S.k-1:=by omega
 unfold pastV at hlk;clear h b1 b2 fA fB hx;generalize t (S.k-1)=tk at*;go_enter Try.func32,Try.ntmps32
 go_upto_region 2 with fail
 generalize(w.alloc (.cells #[.int .i64 0,.int .i64 0] 89)).alloc (.cells #[.int .i64 last,.int .i64 (t 0),.int .i64 (t 1),.int .i64 (t 2),.int .i64 (t 3),.int .i64 (t 4),.int .i64 (t 5),.int .i64 (t 6),.int .i64 (t 7)] 85)=wx at*;clear hlk c5;have hb2:=HB1.out.drew;have hf2:=HFB.out.drew
 go_still_tail 11,(by kernel_rfl)
 change wpList _ _ _ _ _ wx.drew;clear fz0 fz1 l1 l2 lw x0 x1 d0;generalize wx.drew=w2 at*;have fz0:=hb2.frozen 0;have fz1:=hb2.frozen 1;have l1:=hb2.lt;have HB2:=Lib.hid hb2;have HF2:=Lib.hid hf2;have d0:=hb2.cell (i:=0) (by omega);have d1:=hb2.cell (i:=1) (by omega);clear hb2 hf2;go_wp2
 (try simp only[Exit.inBlock,Exit.then])
 refine bodyPost_ret (results_blk Try.results32 _ _ ((HB2.out.set 0 (.int .i64 tk)).set 1 (.int .i64 last)) rfl Try.underlying89 rfl (by kernel_rfl)) (by rfl) ?_;exact⟨rfl,(HF2.out.setCell (p:=⟨w.heap.size,0,none⟩) (.inr (Nat.le_refl _)) _).setCell (p:=⟨w.heap.size,1,none⟩) (.inr (Nat.le_refl _)) _⟩
end
end
end Go.Proofs.Ytcccbdnojlmgaaa
