/- Part 20. -/
import Derived.Test.YtcccbdnojlmgaaaK16
import Derived.Test.YtcccbdnojlmgaaaK19
namespace Go.Proofs.Ytcccbdnojlmgaaa
set_option linter.all false
set_option maxHeartbeats 16000000
set_option maxRecDepth 100000
section
open Go.Maps Go.RowKit
def thO(l:List (Nat×Nat)):List Th:=l.map fun p=>⟨p.1,p.2,0⟩
theorem oldK_in{l:List (Nat×Nat)}(h:OrdO l){p:Nat×Nat}(hp:p∈l):oldK l p.1=some ((p.2:Int),0):=by
 induction l with
 |nil=>cases hp
 |cons q l ih=>
  rw[oldK_cons];obtain⟨h1,h2⟩:=List.pairwise_cons.1 h;rcases List.mem_cons.1 hp with rfl|hp
  .rw[if_pos rfl]
  .rw[if_neg (fun e=>(h1 p hp).2 e)]
   exact ih h2 hp
theorem thO_mem{l:List (Nat×Nat)}(h:OrdO l)(t:Th):memK (oldK l) t↔t∈thO l:=by
 constructor
 .rintro⟨x,hx,hk⟩
  obtain⟨g,hm,ha,hb⟩:=oldK_mem hk;refine List.mem_map.2 ⟨(x,g),hm,?_⟩
  cases t
  simp only at hx ha hb;subst hx;subst ha;subst hb;rfl
 .intro ht
  obtain⟨p,hp,rfl⟩:=List.mem_map.1 ht;exact⟨p.1,rfl,oldK_in h hp⟩
theorem thO_srt{l:List (Nat×Nat)}(h:OrdO l):Srt (thO l):=by
 unfold Srt thO;refine List.pairwise_map.2 (h.imp (fun{p q} hpq=>?_));rw[ltT_iff]
 left
 show(p.2:Int)<q.2
 have:=hpq.1;omega
section
variable{w w':World}{lb fb mb q1 q2 q3 q4 ne:Nat}{S:LK}{FC F4:Nat->Prop}
theorem lghosts_calls(h:LM w lb S fb mb q1 q2 q3 q4 ne FC F4)(hg:S.gone<800000):Calls Try.prog 18 #[.pointer (some ⟨lb,0,none⟩)] w fun e w'=>∃v,e=.returned v∧SlK .u32 w' v (S.Old.map (·.1))∧(∀i,v.ownBlock=some i->w.heap.size<=i)∧Fr NoF w w':=by
 have hql:QS w q4 (fun t=>t∈thO S.Old) S.Old.length F4:=h.qk.congr (fun t=>thO_mem h.ok.ord t);have HL:Hid (∀W,Fr NoF w W->Calls Try.prog 38 #[.pointer (some ⟨q4,0,none⟩)] W fun e w'=>e=.returned (.int .i64 (S.Old.length:Nat))∧W=w'):=fun W f=>qk_len (h.qk.fr0 f)
 have HA:Hid (∀W,Fr NoF w W->Calls Try.prog 39 #[.pointer (some ⟨q4,0,none⟩)] W fun e w'=>∃v,e=.returned v∧SlC w' 1 v S.Old.length (S.Old.map fun p=>.int .i64 (p.1:Int))∧(∀i,v.ownBlock=some i->W.heap.size<=i)∧Fr NoF W w'):=fun W f=>by
  refine(qu_list (hql.fr0 f) (thO_srt h.ok.ord)).mono ?_;rintro e w'⟨v,he,hn,ho,hf⟩;have e1:((thO S.Old).map fun t=>Value.int .i64 t.x)=S.Old.map fun p=>.int .i64 (p.1:Int):=by unfold thO;rw[List.map_map];rfl
  rw[e1]at ho;exact⟨v,he,SlC.ofOwn ho (fun u hu=>by obtain⟨p,_,rfl⟩:=List.mem_map.1 hu;rfl),ownBlock_own ho,hf⟩
 have c9:∀W,Fr NoF w W->W.cell? ⟨lb,9,none⟩=some (.pointer (some ⟨q4,0,none⟩))∧lb<W.heap.size:=fun W f=>⟨(h.fr0 f).ce 9 (by omega),(h.fr0 f).blk.lt⟩
 have HC9:=Lib.hid c9;have c90:=(c9 w (Fr.refl _ _)).1;have lt:=h.blk.lt;have HOK:=Lib.hid h.ok.old;have hn:S.Old.length<800000:=by have:=h.ok.oldn;omega
 obtain⟨i0,hi0,hz0,hz1,hz2⟩:=info_parts' (P:=Try.prog) (e:=35) (z:=.int .u32 0) (s:=1) (b:=4) (by kernel_rfl)
 have mk1:∀(w:World) (n:Nat),n<800000->(Instr.makeSlice 36 (.int .i64 0) (.int .i64 (n:Int))).run Try.prog w=
   .ok (.slice (some ⟨w.heap.size,0,none⟩) 0 n) (w.alloc (.cells (madeCells #[.int .u32 0] n) 35)):=by
  intro w n hn;have:=run_make (P:=Try.prog) w 36 35 i0 _ Try.underlying36 hi0 hz0 .i64 .i64 (0:Int) (n:Int) (by omega) (by omega) (by rw[hz2];omega) (by omega);rw[show(n:Int).toNat=n from by omega,hz1,Nat.mul_one]at this;exact this
 generalize S.Old=l at*;clear h hql c9 hi0 hz0 hz1 hz2 hg;have mk:=mk1 w l.length hn;clear mk1;have HN:=Lib.hid hn;generalize hlen:l.length=n at*;have HLEN:=Lib.hid hlen;clear hlen;go_enter Try.func18,Try.ntmps18
 go_wp2_with fail
 refine(HL.out _ (Fr.refl _ _)).mono ?_;rintro e w1⟨rfl,rfl⟩;have fA:Fr NoF w (w.alloc (.cells (madeCells #[.int .u32 0] n) 35)):=(Fr.refl NoF w).alloc _
 have hro:(w.alloc (.cells (madeCells #[.int .u32 0] n) 35)).ownsRow w.heap.size 35 1 (.slice (some ⟨w.heap.size,0,none⟩) 0 n) 0 []:=
  ⟨rfl,.inr ⟨w.heap.size,n,_,rfl,Nat.le_refl _,heap_alloc_new _ _ _ rfl,Nat.zero_le _,by unfold maxLen;omega,by simp[size_madeCells],by simp⟩⟩
 have HFA:=Lib.hid fA;have HRO:=Lib.hid hro;obtain⟨c9,lt9⟩:=HC9.out _ fA;have hszA:(w.alloc (.cells (madeCells #[.int .u32 0] n) 35)).heap.size=w.heap.size+1:=by simp
 have HSZ:=Lib.hid hszA;clear fA hro hszA
 go_wp2_with fail
 generalize w.alloc (.cells (madeCells #[.int .u32 0] n) 35)=wA at*;refine(HA.out _ HFA.out).mono ?_;rintro e w2⟨v,rfl,hs,hob,hf⟩;obtain⟨va,vc,rfl,q1',q2'⟩:=hs.shape;have HS:=Lib.hid hs;have HOB:=Lib.hid hob;have HF:=Lib.hid hf;have HR0:Hid (w2.ownsRow w.heap.size 35 1 (.slice (some ⟨w.heap.size,0,none⟩) 0 n) 0 ((l.take 0).map fun p=>.int .u32 (p.1:Int))):=own_keep HRO.out hf (fun _ _ q=>q);have HF0:Hid (Fr NoF w w2):=HFA.out.trans hf (fun _ q=>q.elim);have hA1:w.heap.size<wA.heap.size:=by rw[HSZ.out];omega
 have HA1:=Lib.hid hA1;clear hs hob hf c9 lt9 HRO HL HA HC9 c90 hA1 mk;unfold maxLen at q2';go_wp2
 go_loopw [3,20] (fun o i wr=>∃k:Nat,k<=n∧i=.int .i64 k∧wr.ownsRow w.heap.size 35 1 o k ((l.take k).map fun p=>.int .u32 (p.1:Int))∧Fr NoF w wr∧Fr (fun i=>i=w.heap.size) w2 wr∧∀i,o.ownBlock=some i->i=w.heap.size∨w2.heap.size<=i) (fun _ i _=>n-(intOf i).toNat)
 case atStart=>exact⟨0,Nat.zero_le _,rfl,HR0.out,HF0.out,Fr.refl _ _,fun i q=>by left;cases q;rfl⟩
 case round=>
  obtain⟨k,hk,rfl,ho,hf,hf3,hob⟩:=hrel;have HOB2:=Lib.hid hob;have HO:=Lib.hid ho;have HF2:=Lib.hid hf;have HF3:=Lib.hid hf3;have hsz:=hf.size;by_cases hlt:k<n
  .have hgk:k<l.length:=by rw[HLEN.out];exact hlt
   have hs3:=HS.out.fr hf3 (fun b q e=>by have:=HOB.out b q;have:=HA1.out;omega);obtain⟨b,off,c,ev,hcn,hcm,hbl,hc⟩:=hs3.at hlt (by omega);simp only[Value.slice.injEq,true_and]at ev;obtain⟨rfl,rfl⟩:=ev;have hpk:=(HOK.out l[k] (List.getElem_mem hgk)).1;have y0:=hc k (.int .i64 ((l[k].1:Nat):Int)) (by simp[hgk]);unfold maxLen at hcm;have hcu:IntKind.u32.wrap ((l[k].1:Nat):Int)=((l[k].1:Nat):Int):=IntWalk.u32_in _ (by unfold okN at hpk;omega)
   have HX:Hid ((l.take (k+1)).map (fun p=>Value.int .u32 (p.1:Int))=(l.take k).map (fun p=>Value.int .u32 (p.1:Int))++[.int .u32 ((l[k].1:Nat):Int)]):=by
    unfold Hid;rw[List.take_succ_eq_append_getElem hgk,List.map_append];rfl
   clear hc;generalize l[k].1=tx at*;clear ho hf hf3 hob hs3 hpk hgk;have f2:Fr NoF wr (wr.alloc (.cells #[.int .u32 tx] 35)):=(Fr.refl NoF wr).alloc _;have FF2:=Lib.hid f2;clear f2
   go_wp2_with(at_builtin;go_must(refine appLB (base:=w.heap.size) EIu rfl _ _ rfl (by rfl) (by rfl) (by simp;omega) (own_keep HO.out FF2.out (fun _ _ q=>q)) (SlC.ofOwn (own_new (w0:=wr) (by simp) #[.int .u32 tx] 35 1 1 _ (by simp) rfl (by unfold maxLen;omega)) (by simp[Value.oneCell'])) (by unfold maxLen;omega) (by omega) ?_);intro v' w2 hown' hf' hnb;have HNB:=Lib.hid hnb;clear hnb;have HF':=Lib.hid hf';have HO':=Lib.hid hown';clear y0 hf' hown')
   go_roundw
   case rel=>
    refine⟨k+1,by omega,by go_num,?_,?_,?_,?_⟩
    .rw[HX.out];exact HO'.out
    .exact(HF2.out.trans FF2.out (fun _ q=>q.elim)).trans HF'.out (fun i hi=>.inr (ownBlock_own HO.out i hi))
    .exact(HF3.out.trans FF2.out (fun _ q=>q.elim)).trans HF'.out (fun i hi=>HOB2.out i hi)
    .intro i hi
     have e1:=HF3.out.size;have e2:=FF2.out.size;rcases HNB.out i hi with q|q
     .exact HOB2.out i q
     .exact .inr (by omega)
   case measure=>simp[intOf];omega
  .obtain rfl:k=n:=by omega
   clear ho hf hf3 hob;go_wp2;go_returns;have e1:l.take k=l:=List.take_of_length_le (by rw[HLEN.out];exact Nat.le_refl _);have ho:=HO.out;rw[e1]at ho;have hs:=SlC.ofOwn ho (fun u hu=>by obtain⟨p,_,rfl⟩:=List.mem_map.1 hu;rfl);refine⟨_,rfl,?_,ownBlock_own HO.out,HF2.out⟩;unfold SlK;rw[List.length_map,HLEN.out,List.map_map];exact hs
end
end
end Go.Proofs.Ytcccbdnojlmgaaa
