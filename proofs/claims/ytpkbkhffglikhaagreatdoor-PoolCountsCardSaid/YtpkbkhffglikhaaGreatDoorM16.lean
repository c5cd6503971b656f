/- Part 16. -/
import Derived.Test.YtpkbkhffglikhaaGreatDoorM15
import Derived.Deep.LoopGhost
namespace Go.Proofs.YtpkbkhffglikhaaGreatDoor
set_option linter.all false
set_option maxHeartbeats 16000000
set_option maxRecDepth 100000
section
open Go.Proofs.Tryz Go.RowKit
def rowZ(L:List (List Nat))(k:Int):List Nat:=if 0<=k then L[k.toNat]?.getD []else[]
def nextZ(L:List (List Nat))(x:Int):Option Nat:=match ixZ L x with
 |none=>none
 |some k=>(L[k]?.getD [])[(L[k]?.getD []).idxOf x.toNat+1]?
theorem idxOf_mid{l1 l2:List Nat}{x:Nat}(h:¬x∈l1):(l1++x::l2).idxOf x=l1.length:=by
 rw[List.idxOf_append,if_neg h];simp
theorem nextZ_eq{n m:Nat}{rw nx pv ls:Nat->Nat}{L:List (List Nat)}(h:RInv n m rw nx pv ls L){k x:Nat}{l1 l2:List Nat}(hl:L[k]?=some (l1++x::l2)):nextZ L x=l2.head?:=by
 have e:=h.rowIx_of hl (x:=x) (by simp);have q:=(h.split_not hl).1;simp[nextZ,ixZ_nat,e,hl,idxOf_mid q,List.getElem?_append_right,List.head?_eq_getElem?]
section
variable{w:World}{b nb lb n m:Nat}{rw nx pv ls:Nat->Nat}
theorem RC.drewN(h:RC w b nb lb n m rw nx pv ls)(d:Nat):RC (w.drewN d) b nb lb n m rw nx pv ls:=
 ⟨h.hd.drewN d,h.nd.drewN d,h.ln.drewN d,h.d1,h.d2,h.d3,h.hn,h.hm⟩
theorem first_core(h:RC w b nb lb n m rw nx pv ls)(k t:Nat)(r:Int)(hk:k<m)(ht:w.cell? ⟨nb,(n+k)*3+1,none⟩=some (.int .i64 t))(hr:Hid ((if t<n then(t:Int)else-1)=r)):
  Calls prog 141 #[.pointer (some ⟨b,0,none⟩),.int .i64 k] w λe w'=>e=.returned (.int .i64 r)/\∃d,w.drewN d=w':=by
 have c1:=h.c1;have hm:=h.hm;have hn:=h.hn;have ht':w.cell? ⟨nb,(n+k)*3+1,none⟩=some (.int .i64 t):=ht
 have HT:∀d,Calls prog 143 #[.pointer (some ⟨b,0,none⟩),.int .i64 t] (w.drewN d) λe w'=>e=.returned (.int .i64 r)/\w.drewN d=w':=by
  intro d;rw[<-hr.out];exact thing_any (h.drewN d)
 have HT':=Hd HT;have e1:((n:Int)+k).toNat=n+k:=by omega
 clear HT ht;go_enter func141,ntmps141
 go_wp2_with(go_at_call 101;refine(isRow_yes h (by omega) (by omega)).mono ?_;rintro e w'⟨rfl,rfl⟩)
 go_quiet ((first|(go_at_call 84;exact qs (closing_any (h.drewN _) (by omega) (by omega)))|(go_at_call 143;exact qs (HT'.out _))))
 go_wp2
 go_ret
 exact⟨rfl,_,rfl⟩
theorem next_core(h:RC w b nb lb n m rw nx pv ls)(x t k:Nat)(r:Int)(hx:x<n)(ht:w.cell? ⟨nb,x*3+1,none⟩=some (.int .i64 t))(hr:Hid ((if t<n then(t:Int)else-1)=r))
  (HI:Hid (Calls prog 111 #[.pointer (some ⟨b,0,none⟩),.int .i64 x] w λe w'=>e=.returned (.int .i64 k)/\w=w')):
  Calls prog 142 #[.pointer (some ⟨b,0,none⟩),.int .i64 x] w λe w'=>e=.returned (.int .i64 r)/\w=w':=by
 have c1:=h.c1;have hm:=h.hm;have hn:=h.hn
 have HT:Hid (Calls prog 143 #[.pointer (some ⟨b,0,none⟩),.int .i64 t] w λe w'=>e=.returned (.int .i64 r)/\w=w'):=by
  unfold Hid;rw[<-hr.out];exact thing_any h
 go_enter func142,ntmps142
 go_wp2_with(first
  |(go_at_call 111;refine HI.out.mono ?_;rintro e w'⟨rfl,rfl⟩)
  |(go_at_call 143;refine HT.out.mono ?_;rintro e w'⟨rfl,rfl⟩))
 go_ret
 exact⟨rfl,rfl⟩
theorem next_none(x:Int)
  (HI:Hid (Calls prog 111 #[.pointer (some ⟨b,0,none⟩),.int .i64 x] w λe w'=>e=.returned (.int .i64 (-1))/\w=w')):
  Calls prog 142 #[.pointer (some ⟨b,0,none⟩),.int .i64 x] w λe w'=>e=.returned (.int .i64 (-1))/\w=w':=by
 go_enter func142,ntmps142
 go_wp2_with(go_at_call 111;refine HI.out.mono ?_;rintro e w'⟨rfl,rfl⟩)
 go_ret
 exact⟨rfl,rfl⟩
theorem first_not(h:RC w b nb lb n m rw nx pv ls)(k:Int)(hk:k<0\/(m:Int)<=k):
  Calls prog 141 #[.pointer (some ⟨b,0,none⟩),.int .i64 k] w λe w'=>e=.returned (.int .i64 (-1))/\w=w':=by
 have H1:=Hd (isRow_no h hk);clear hk;go_enter func141,ntmps141
 go_wp2_with(go_at_call 101;refine H1.out.mono ?_;rintro e w'⟨rfl,rfl⟩)
 go_ret
 exact⟨rfl,rfl⟩
theorem len_not(h:RC w b nb lb n m rw nx pv ls)(k:Int)(hk:k<0\/(m:Int)<=k):
  Calls prog 184 #[.pointer (some ⟨b,0,none⟩),.int .i64 k] w λe w'=>e=.returned (.int .i64 (0))/\w=w':=by
 have H1:=Hd (isRow_no h hk);clear hk;go_enter func184,ntmps184
 go_wp2_with(go_at_call 101;refine H1.out.mono ?_;rintro e w'⟨rfl,rfl⟩)
 go_ret
 exact⟨rfl,rfl⟩
theorem len_row(h:RC w b nb lb n m rw nx pv ls)(k:Nat)(hk:k<m):
  Calls prog 184 #[.pointer (some ⟨b,0,none⟩),.int .i64 k] w λe w'=>e=.returned (.int .i64 (ls k:Nat))/\w=w':=by
 have c2:=h.c2;have hm:=h.hm;have c3:=h.len hk;go_enter func184,ntmps184
 go_wp2_with(go_at_call 101;refine(isRow_yes h (by omega) (by omega)).mono ?_;rintro e w'⟨rfl,rfl⟩)
 go_ret
 exact⟨rfl,rfl⟩
end
section
variable{w:World}{b n m:Nat}{L:List (List Nat)}{F:Nat->Prop}
theorem getD_thing{l:List Nat}{o:Option Nat}{n k:Nat}(ho:∀x,o=some x->x<n):(if o.getD (n+k)<n then((o.getD (n+k):Nat):Int)else-1)=ixI o:=by
 cases o with
 |none=>simp[ixI];omega
 |some x=>simp[ixI,ho x rfl]
theorem First_all(h:RR w b n m L F)(k:Int):
  Calls prog 141 #[.pointer (some ⟨b,0,none⟩),.int .i64 k] w λe w'=>e=.returned (.int .i64 (ixI (rowZ L k).head?))/\∃d,w.drewN d=w':=by
 obtain⟨nb,lb,rw,nx,pv,ls,hc,hi,hF⟩:=h.ex;by_cases hk:0<=k/\k<m
 .obtain⟨k,rfl⟩:=Int.eq_ofNat_of_zero_le hk.1
  have hk':k<m:=by omega
  obtain⟨l,hl,hl'⟩:=hi.get_out hk';rw[show rowZ L (k:Int)=l from by simp[rowZ,hl']];refine first_core hc k (nx (n+k)) _ hk' (hc.next (by omega)) ?_;unfold Hid;rw[(hi.lk k l hl).first];exact getD_thing (l:=l) (λx hx=>(hi.mem k l hl x (List.mem_of_mem_head? hx)).1)
 .have hl:=hi.len
  have e:rowZ L k=[]:=by
   unfold rowZ
   split
   .rw[List.getElem?_eq_none (by omega)];rfl
   .rfl
  rw[e];exact(first_not hc k (by omega)).mono λe w' ⟨he,hw⟩=>⟨he,0,hw⟩
theorem Len_all(h:RR w b n m L F)(k:Int):
  Calls prog 184 #[.pointer (some ⟨b,0,none⟩),.int .i64 k] w λe w'=>e=.returned (.int .i64 ((rowZ L k).length:Nat))/\w=w':=by
 obtain⟨nb,lb,rw,nx,pv,ls,hc,hi,hF⟩:=h.ex;by_cases hk:0<=k/\k<m
 .obtain⟨k,rfl⟩:=Int.eq_ofNat_of_zero_le hk.1
  have hk':k<m:=by omega
  obtain⟨l,hl,hl'⟩:=hi.get_out hk';rw[show rowZ L (k:Int)=l from by simp[rowZ,hl'],<-hi.lsz k l hl];exact len_row hc k hk'
 .have hl:=hi.len
  have e:rowZ L k=[]:=by
   unfold rowZ
   split
   .rw[List.getElem?_eq_none (by omega)];rfl
   .rfl
  rw[e];exact len_not hc k (by omega)
theorem Next_all(h:RR w b n m L F)(x:Int):
  Calls prog 142 #[.pointer (some ⟨b,0,none⟩),.int .i64 x] w λe w'=>e=.returned (.int .i64 (ixI (nextZ L x)))/\w=w':=by
 have HI:=In_all h x;obtain⟨nb,lb,rw,nx,pv,ls,hc,hi,hF⟩:=h.ex
 cases e:ixZ L x with
 |none=>
  rw[e]at HI;rw[show nextZ L x=none from by simp[nextZ,e]];exact next_none x HI
 |some k=>
  have hb:=ixZ_lt h e;obtain⟨x,rfl⟩:=Int.eq_ofNat_of_zero_le hb.1;rw[e]at HI;rw[show ixZ L (x:Int)=rowIx L x from ixZ_nat x]at e;obtain⟨l1,l2,hl⟩:=hi.split e;rw[show nextZ L (x:Int)=l2.head? from nextZ_eq hi hl];refine next_core hc x (nx x) k _ (by omega) (hc.next (by omega)) ?_ HI;unfold Hid;rw[(hi.lk k _ hl).at.2];exact getD_thing (l:=l2) (λy hy=>(hi.mem k _ hl y (by simp[List.mem_of_mem_head? hy])).1)
end
theorem infoInt:(prog.info? 3).map (λi=>(i.zero,i.size,i.bytes))=some (some (.int .i64 0),1,8):=by kernel_rfl
end
section
open Go.RowKit
section
variable{w:World}{b n m:Nat}{L:List (List Nat)}{F:Nat->Prop}
theorem rowZ_facts(h:RR w b n m L F)(k:Int):(rowZ L k).length<=n/\∀(j x:Nat),(rowZ L k)[j]?=some x->nextZ L (x:Int)=(rowZ L k)[j+1]?:=by
 obtain⟨nb,lb,rw,nx,pv,ls,hc,hi,hF⟩:=h.ex;by_cases hk:0<=k/\k<m
 .obtain⟨k,rfl⟩:=Int.eq_ofNat_of_zero_le hk.1
  have hk':k<m:=by omega
  obtain⟨l,hl,hl'⟩:=hi.get_out hk';have el:rowZ L (k:Int)=l:=by simp[rowZ,hl']
  rw[el];refine⟨?_,λj x hx=>?_⟩
  .have:=List.Nodup.length_le_of_subset (l₁:=l) (l₂:=List.range n) (hi.nd k _ hl) (λy hy=>List.mem_range.2 (hi.mem k _ hl y hy).1)
   simpa using this
  .obtain⟨hj,rfl⟩:=List.getElem?_eq_some_iff.1 hx
   have hsp:l=l.take j++l[j]::l.drop (j+1):=by simp
   have hl2:L[k]?=some (l.take j++l[j]::l.drop (j+1)):=by rw[<-hsp];exact hl
   rw[nextZ_eq hi hl2];simp
 .have hl:=hi.len
  have e:rowZ L k=[]:=by
   unfold rowZ
   split
   .rw[List.getElem?_eq_none (by omega)];rfl
   .rfl
  rw[e];exact⟨by simp,λj x hx=>by simp at hx⟩
end
end
section
open Go.Proofs.Tryz Go.RowKit
theorem infoNode:(prog.info? 163).map (λi=>(i.zero,i.size,i.bytes))=some (some (.agg #[.int .i64 0,.int .i64 0,.int .i64 0]),3,24):=by kernel_rfl
theorem made_get{z:Array Value}{N i:Nat}(hi:i<N):(madeCells z N)[i]?=some z[i%z.size]!:=by
 unfold madeCells;rw[Array.getElem?_map,Array.getElem?_range,if_pos hi];rfl
def z0:Nat->Nat:=λ_=>0
def clR(n k:Nat):Nat->Nat:=λi=>if n<=i/\i<n+k then i-n+1 else 0
def clN(n k:Nat):Nat->Nat:=λi=>if n<=i/\i<n+k then i else 0
theorem clR_succ(n k:Nat):upd (clR n k) (n+k) (k+1)=clR n (k+1):=by
 funext i;unfold upd clR
 split
 .subst i;rw[if_pos (by omega)];omega
 .by_cases h:n<=i/\i<n+k
  .rw[if_pos h,if_pos (by omega)]
  .rw[if_neg h,if_neg (by omega)]
theorem clN_succ(n k:Nat):upd (clN n k) (n+k) (n+k)=clN n (k+1):=by
 funext i;unfold upd clN
 split
 .subst i;rw[if_pos (by omega)]
 .by_cases h:n<=i/\i<n+k
  .rw[if_pos h,if_pos (by omega)]
  .rw[if_neg h,if_neg (by omega)]
theorem clR_zero(n:Nat):clR n 0=z0:=by funext i;unfold clR z0;rw[if_neg (by omega)]
theorem clN_zero(n:Nat):clN n 0=z0:=by funext i;unfold clN z0;rw[if_neg (by omega)]
theorem cl_inv(n m:Nat):RInv n m (clR n m) (clN n m) (clN n m) z0 (List.replicate m []):=by
 have g:∀(k:Nat) (l:List Nat),(List.replicate m ([]:List Nat))[k]?=some l->k<m/\l=[]:=by
  intro k l h;rw[List.getElem?_replicate]at h
  split at h
  .exact⟨by assumption,(Option.some.inj h).symm⟩
  .cases h
 refine⟨by simp,?_,?_,?_,?_,?_,?_⟩
 .intro k l h;obtain⟨hk,rfl⟩:=g k l h
  exact⟨by unfold clN;rw[if_pos (by omega)],by unfold clN;rw[if_pos (by omega)]⟩
 .intro k l h;obtain⟨hk,rfl⟩:=g k l h;rfl
 .intro k l h;obtain⟨hk,rfl⟩:=g k l h;simp
 .intro k l h x hx;obtain⟨hk,rfl⟩:=g k l h;simp at hx
 .intro k hk;unfold clR;rw[if_pos (by omega)];omega
 .intro x hx;left;unfold clR;rw[if_neg (by omega)]
def NewRel(w0:World)(b nb lb n m:Nat)(i:Value)(wr:World):Prop:=
 ∃k:Nat,k<=m/\i=.int .i64 k/\RC wr b nb lb n m (clR n k) (clN n k) (clN n k) z0/\Fr NoF w0 wr
theorem rc_made{w w':World}{b nb lb n m:Nat}(hn:n<=200000)(hm:m<=16)(h1:w'.heap[b]?=some (.cells #[.int .i64 n,.slice (some ⟨nb,0,none⟩) (n+m) (n+m),.slice (some ⟨lb,0,none⟩) m m] 160 (0,0)))
  (h2:w'.heap[nb]?=some (.cells (madeCells #[.int .i64 0,.int .i64 0,.int .i64 0] ((n+m)*3)) 163 (0,0)))(h3:w'.heap[lb]?=some (.cells (madeCells #[.int .i64 0] m) 3 (0,0)))(d1:¬b=nb)(d2:¬b=lb)(d3:¬nb=lb):
  RC w' b nb lb n m z0 z0 z0 z0:=by
 refine⟨⟨_,_,h1,rfl,?_⟩,⟨_,_,h2,by simp[size_madeCells],?_⟩,⟨_,_,h3,by simp[size_madeCells],?_⟩,d1,d2,d3,hn,hm⟩
 .intro i hi
  match i,hi with
  |0,_=>rfl
  |1,_=>rfl
  |2,_=>rfl
 .intro i hi
  rw[made_get hi];have:i%3<3:=Nat.mod_lt _ (by decide)
  have e:∀j,j<3->(#[Value.int .i64 0,.int .i64 0,.int .i64 0]:Array Value)[j]! =.int .i64 0:=by
   intro j hj
   match j,hj with
   |0,_=>rfl
   |1,_=>rfl
   |2,_=>rfl
  rw[show(#[Value.int .i64 0,.int .i64 0,.int .i64 0]:Array Value).size=3 from rfl,e _ this];simp[ndF,z0]
 .intro i hi
  rw[made_get hi];rw[show(#[Value.int .i64 0]:Array Value).size=1 from rfl,Nat.mod_one];rfl
theorem h0(w:World)(o:Obj):(w.alloc o).heap[w.heap.size]?=some o:=heap_alloc_new w o _ rfl
theorem hstep(w:World)(o o':Obj)(k:Nat)(h:w.heap[k]?=some o'):(w.alloc o).heap[k]?=some o':=by
 rw[Below.heap_alloc w o k ?_];exact h;rcases Nat.lt_or_ge k w.heap.size with h'|h'
 .exact h'
 .simp[Array.getElem?_eq_none h']at h
abbrev nodesO(n m:Nat):Obj:=.cells (madeCells #[.int .i64 0,.int .i64 0,.int .i64 0] ((n+m)*3)) 163
abbrev lensO(m:Nat):Obj:=.cells (madeCells #[.int .i64 0] m) 3
abbrev rowsO(n m nb lb:Nat):Obj:=.cells #[.int .i64 n,.slice (some ⟨nb,0,none⟩) (n+m) (n+m),.slice (some ⟨lb,0,none⟩) m m] 160
theorem startA(w:World)(n m:Nat)(hn:n<=200000)(hm:m<=16):RC (((w.alloc (nodesO n m)).alloc (lensO m)).alloc (rowsO n m w.heap.size (w.heap.size+1))).drew (w.heap.size+1+1) w.heap.size (w.heap.size+1) n m z0 z0 z0 z0:=by
 have e1:(w.alloc (nodesO n m)).heap.size=w.heap.size+1:=by simp
 have e2:((w.alloc (nodesO n m)).alloc (lensO m)).heap.size=w.heap.size+2:=by simp
 refine rc_made hn hm (w:=w) ?_ ?_ ?_ (by omega) (by omega) (by omega)
 .exact heap_alloc_new _ _ _ e2.symm
 .exact hstep _ _ _ _ (hstep _ _ _ _ (h0 _ _))
 .exact hstep _ _ _ _ (heap_alloc_new _ _ _ e1.symm)
theorem startB(w:World)(n m:Nat)(hn:n<=200000)(hm:m<=16):RC (((w.alloc (lensO m)).alloc (nodesO n m)).alloc (rowsO n m (w.heap.size+1) w.heap.size)).drew (w.heap.size+1+1) (w.heap.size+1) w.heap.size n m z0 z0 z0 z0:=by
 have e1:(w.alloc (lensO m)).heap.size=w.heap.size+1:=by simp
 have e2:((w.alloc (lensO m)).alloc (nodesO n m)).heap.size=w.heap.size+2:=by simp
 refine rc_made hn hm (w:=w) ?_ ?_ ?_ (by omega) (by omega) (by omega)
 .exact heap_alloc_new _ _ _ e2.symm
 .exact hstep _ _ _ _ (heap_alloc_new _ _ _ e1.symm)
 .exact hstep _ _ _ _ (hstep _ _ _ _ (h0 _ _))
theorem newRel_step{w0 wr:World}{b nb lb n m k:Nat}(hk:k<m)(h:RC wr b nb lb n m (clR n k) (clN n k) (clN n k) z0)(f:Fr NoF w0 wr)(hb:w0.heap.size<=nb):
  NewRel w0 b nb lb n m (.int .i64 ((k:Int)+1)) (((wr.setCell ⟨nb,(n+k)*3,none⟩ (.int .i64 ((k:Int)+1))).setCell ⟨nb,(n+k)*3+1,none⟩ (.int .i64 ((n:Int)+k))).setCell ⟨nb,(n+k)*3+2,none⟩ (.int .i64 ((n:Int)+k))):=by
 refine⟨k+1,hk,rfl,?_,((f.setCell (.inr hb) _).setCell (.inr hb) _).setCell (.inr hb) _⟩;have:=((h.setRow (n+k) (k+1) (z:=(k:Int)+1) (by omega)).setNext (n+k) (n+k) (z:=(n:Int)+k) (by omega)).setPrev (n+k) (n+k) (z:=(n:Int)+k) (by omega);rw[clR_succ,clN_succ]at this;exact this
theorem new_yes(n m:Nat)(w:World)(hn:n<=200000)(h1:1<=m)(hm:m<=16):
  Calls prog 58 #[.int .i64 n,.int .i64 m] w λe w'=>∃b F,e=.returned (.tuple #[.pointer (some ⟨b,0,none⟩),.int .i64 0])/\RR w' b n m (List.replicate m []) F/\(∀i,F i->w.heap.size<=i)/\Fr NoF w w':=by
 obtain⟨i0,hi,hz0,hz1,hz2⟩:=info_parts infoInt;obtain⟨i1,hj,hy0,hy1,hy2⟩:=info_parts infoNode
 have mk1:∀w:World,(Instr.makeSlice 158 (.int .i64 ((n:Int)+m)) (.int .i64 ((n:Int)+m))).run prog w=
   .ok (.slice (some ⟨w.heap.size,0,none⟩) (n+m) (n+m)) (w.alloc (.cells (madeCells #[.int .i64 0,.int .i64 0,.int .i64 0] ((n+m)*3)) 163)):=by
  intro w;have:=run_make (P:=prog) w 158 163 i1 _ underlying158 hj hy0 .i64 .i64 ((n:Int)+m) ((n:Int)+m) (by omega) (Int.le_refl _) (by rw[hy2];omega) (by omega);rw[show((n:Int)+m).toNat=n+m from by omega,hy1]at this;exact this
 have mk2:∀w:World,(Instr.makeSlice 24 (.int .i64 (m:Int)) (.int .i64 (m:Int))).run prog w=
   .ok (.slice (some ⟨w.heap.size,0,none⟩) m m) (w.alloc (.cells (madeCells #[.int .i64 0] m) 3)):=by
  intro w;have:=run_make (P:=prog) w 24 3 i0 _ underlying24 hi hz0 .i64 .i64 (m:Int) (m:Int) (by omega) (Int.le_refl _) (by rw[hz2];omega) (by omega);rw[show((m:Int)).toNat=m from by omega,hz1,Nat.mul_one]at this;exact this
 have d1:decide ((n:Int)<0)=false:=by simp
 have d2:decide ((200000:Int)<n)=false:=by simp;omega
 have d3:decide ((m:Int)<1)=false:=by simp;omega
 have d4:decide ((16:Int)<m)=false:=by simp;omega
 clear hi hz0 hz1 hz2 hj hy0 hy1 hy2;go_enter func58,ntmps58;go_wp2
 go_region
 .go_wp2
  have st:=startA w n m hn hm;have hf:Fr NoF w (((w.alloc (nodesO n m)).alloc (lensO m)).alloc (rowsO n m w.heap.size (w.heap.size+1))).drew:=((((Fr.refl NoF w).alloc _).alloc _).alloc _).drew;generalize(((w.alloc (nodesO n m)).alloc (lensO m)).alloc (rowsO n m w.heap.size (w.heap.size+1))).drew=wz at st hf;obtain⟨b,hb⟩:∃b,b=w.heap.size+1+1:=⟨_,rfl⟩;obtain⟨nb,hnb⟩:∃b,b=w.heap.size:=⟨_,rfl⟩;obtain⟨lb,hlb⟩:∃b,b=w.heap.size+1:=⟨_,rfl⟩;rw[<-hb,<-hlb,<-hnb]at st;rw[<-hb,<-hlb,<-hnb];have hB:Hid (w.heap.size<=b/\w.heap.size<=nb/\w.heap.size<=lb):=⟨by omega,by omega,by omega⟩;clear hb hnb hlb
  go_loopw [33] (NewRel w b nb lb n m) (λi _=>m-(intOf i).toNat)
  case atStart=>exact⟨0,Nat.zero_le _,rfl,by rw[clR_zero,clN_zero];exact st,hf⟩
  case round=>
   obtain⟨k,hk,rfl,hc,hf'⟩:=hrel;clear st hf;by_cases hlt:k<m
   .have c1:=hc.c1
    have hnz:=hc.nd.lt;have hfz:=hc.nd.frozen;have r0:=hc.row (i:=n+k) (by omega);have r1:=hc.next (i:=n+k) (by omega);have r2:=hc.prev (i:=n+k) (by omega);have HS:=Hd (newRel_step (w0:=w) hlt hc hf' hB.out.2.1);have HC:Hid (Calls prog 84 #[.pointer (some ⟨b,0,none⟩),.int .i64 k] wr λe w'=>e=.returned (.int .i64 (n+k))/\wr=w'):=closing_any hc (by omega) (by omega);have ht:((n:Int)+k).toNat=n+k:=by omega
    go_wp2_with(go_at_call 84;refine HC.out.mono ?_;rintro e w'⟨rfl,rfl⟩)
    go_roundw
    case rel=>exact HS.out
    case measure=>simp[intOf];omega
   .obtain rfl:k=m:=by omega
    go_wp2
    go_ret2
    exact⟨b,λi=>i=b\/i=nb\/i=lb,rfl,⟨nb,lb,_,_,_,_,hc,cl_inv n k,λ_=>Iff.rfl⟩,λi hi=>by have:=hB.out;omega,hf'⟩
 .go_wp2
  have st:=startB w n m hn hm;have hf:Fr NoF w (((w.alloc (lensO m)).alloc (nodesO n m)).alloc (rowsO n m (w.heap.size+1) w.heap.size)).drew:=((((Fr.refl NoF w).alloc _).alloc _).alloc _).drew;generalize(((w.alloc (lensO m)).alloc (nodesO n m)).alloc (rowsO n m (w.heap.size+1) w.heap.size)).drew=wz at st hf;obtain⟨b,hb⟩:∃b,b=w.heap.size+1+1:=⟨_,rfl⟩;obtain⟨nb,hnb⟩:∃b,b=w.heap.size+1:=⟨_,rfl⟩;obtain⟨lb,hlb⟩:∃b,b=w.heap.size:=⟨_,rfl⟩;rw[<-hb,<-hnb,<-hlb]at st;rw[<-hb,<-hnb,<-hlb];have hB:Hid (w.heap.size<=b/\w.heap.size<=nb/\w.heap.size<=lb):=⟨by omega,by omega,by omega⟩;clear hb hnb hlb
  go_loopw [33] (NewRel w b nb lb n m) (λi _=>m-(intOf i).toNat)
  case atStart=>exact⟨0,Nat.zero_le _,rfl,by rw[clR_zero,clN_zero];exact st,hf⟩
  case round=>
   obtain⟨k,hk,rfl,hc,hf'⟩:=hrel;clear st hf;by_cases hlt:k<m
   .have c1:=hc.c1
    have hnz:=hc.nd.lt;have hfz:=hc.nd.frozen;have r0:=hc.row (i:=n+k) (by omega);have r1:=hc.next (i:=n+k) (by omega);have r2:=hc.prev (i:=n+k) (by omega);have HS:=Hd (newRel_step (w0:=w) hlt hc hf' hB.out.2.1);have HC:Hid (Calls prog 84 #[.pointer (some ⟨b,0,none⟩),.int .i64 k] wr λe w'=>e=.returned (.int .i64 (n+k))/\wr=w'):=closing_any hc (by omega) (by omega);have ht:((n:Int)+k).toNat=n+k:=by omega
    go_wp2_with(go_at_call 84;refine HC.out.mono ?_;rintro e w'⟨rfl,rfl⟩)
    go_roundw
    case rel=>exact HS.out
    case measure=>simp[intOf];omega
   .obtain rfl:k=m:=by omega
    go_wp2
    go_ret2
    exact⟨b,λi=>i=b\/i=nb\/i=lb,rfl,⟨nb,lb,_,_,_,_,hc,cl_inv n k,λ_=>Iff.rfl⟩,λi hi=>by have:=hB.out;omega,hf'⟩
end
section
open Go.RowKit
def cntL(l:List Nat)(ev:Nat->Bool):Nat:=(l.filter ev).length
theorem filter_not'{l:List Nat}{x:Nat}(h:¬x∈l):(l.filter λy=>!decide (y=x))=l:=by
 rw[List.filter_eq_self];intro a ha;have:¬a=x:=λe=>h (e▸ha)
 simp[this]
def awayL(l:List Nat)(f:Nat):List Nat:=l.filter λy=>!decide (y=f)
def backL(l:List Nat)(f:Nat):List Nat:=awayL l f++[f]
theorem mem_away{l:List Nat}{f x:Nat}:x∈awayL l f↔x∈l/\¬x=f:=by simp[awayL]
theorem mem_back{l:List Nat}{f x:Nat}:x∈backL l f↔x∈l\/x=f:=by
 simp only[backL,List.mem_append,mem_away,List.mem_singleton];by_cases e:x=f<;>simp[e]
theorem cnt_away{l:List Nat}(hn:l.Nodup)(ev:Nat->Bool)(f:Nat):cntL (awayL l f) ev+(if f∈l/\ev f=true then 1 else 0)=cntL l ev:=by
 induction l with
 |nil=>simp[awayL,cntL]
 |cons a l ih=>
  have hn':=List.nodup_cons.1 hn;have ih:=ih hn'.2;by_cases e:a=f
  .subst e
   have e2:awayL (a::l) a=l:=by
    have:awayL (a::l) a=awayL l a:=by simp[awayL]
    rw[this];exact filter_not' hn'.1
   rw[e2];by_cases h:ev a=true<;>simp[cntL,h]
  .have e2:awayL (a::l) f=a::awayL l f:=by simp[awayL,e]
   rw[e2];have e3:(f∈a::l/\ev f=true)↔(f∈l/\ev f=true):=by simp[show¬f=a from λq=>e q.symm]
   have e4:∀l',cntL (a::l') ev=cntL l' ev+(if ev a=true then 1 else 0):=by
    intro l';by_cases h:ev a=true<;>simp[cntL,h]
   rw[e4,e4];simp only[e3];omega
theorem cnt_append(l l':List Nat)(ev:Nat->Bool):cntL (l++l') ev=cntL l ev+cntL l' ev:=by simp[cntL]
theorem cnt_back{l:List Nat}(hn:l.Nodup)(ev:Nat->Bool)(f:Nat)(ho:ev f=true->f∈l):cntL (backL l f) ev=cntL l ev:=by
 have:=cnt_away hn ev f;rw[backL,cnt_append];by_cases h:ev f=true
 .have hm:=ho h
  rw[if_pos ⟨hm,h⟩]at this;rw[<-this];simp[cntL,h]
 .rw[if_neg (λq=>h q.2)]at this
  rw[<-this];simp[cntL,h]
theorem cnt_upd_not{l:List Nat}(ev:Nat->Bool)(f:Nat)(v:Bool)(h:¬f∈l):cntL l (upd ev f v)=cntL l ev:=by
 unfold cntL
 congr 1
 apply List.filter_congr;intro x hx;rw[upd_other];intro e;exact h (e▸hx)
theorem cnt_upd{l:List Nat}(hn:l.Nodup)(ev:Nat->Bool)(f:Nat)(v:Bool)(h:f∈l):cntL l (upd ev f v)+(if ev f=true then 1 else 0)=cntL l ev+(if v=true then 1 else 0):=by
 have h1:=cnt_away hn ev f;have h2:=cnt_away hn (upd ev f v) f;rw[cnt_upd_not _ _ _ (by simp[mem_away])]at h2;simp only[upd_same,h,true_and]at h1 h2;omega
theorem cnt_le(l:List Nat)(ev:Nat->Bool):cntL l ev<=l.length:=List.length_filter_le _ _
end
section
open Go.Proofs.Tryz Go.RowKit
def lruH(rb eb n sz:Nat):Nat->Value
 |0=>.pointer (some ⟨rb,0,none⟩)
 |1=>.slice (some ⟨eb,0,none⟩) n n
 |2=>.int .i64 sz
 |_=>.int .i64 0
structure LCu(w:World)(b rb eb n:Nat)(l:List Nat)(ev:Nat->Bool)(FR:Nat->Prop):Prop where
 hd:Blk w b 3 (lruH rb eb n (cntL l ev))
 be:Blk w eb n (bF ev)
 rr:RR w rb n 1 [l] FR
 d1:¬b=eb
 d2:¬FR b
 d3:¬FR eb
 out:∀f,ev f=true->f∈l
 hn:n<=65535
def LRu(w:World)(b n:Nat)(l:List Nat)(ev:Nat->Bool)(F:Nat->Prop):Prop:=
 ∃rb eb FR,LCu w b rb eb n l ev FR/\∀i,F i↔i=b\/i=eb\/FR i
theorem RR.row0{w:World}{b n:Nat}{l:List Nat}{F:Nat->Prop}(h:RR w b n 1 [l] F):l.Nodup/\∀x∈l,x<n:=by
 obtain⟨nb,lb,rw,nx,pv,ls,hc,hi,hF⟩:=h.ex;exact⟨hi.nd 0 l rfl,λx hx=>(hi.mem 0 l rfl x hx).1⟩
theorem LCu.fr{w w':World}{b rb eb n:Nat}{l:List Nat}{ev:Nat->Bool}{FR G:Nat->Prop}(h:LCu w b rb eb n l ev FR)(f:Fr G w w')(h1:¬G b)(h2:¬G eb)(h3:∀i,FR i->¬G i):LCu w' b rb eb n l ev FR:=
 ⟨h.hd.fr f h1,h.be.fr f h2,h.rr.fr f h3,h.d1,h.d2,h.d3,h.out,h.hn⟩
theorem LRu.fr{w w':World}{b n:Nat}{l:List Nat}{ev:Nat->Bool}{F G:Nat->Prop}(h:LRu w b n l ev F)(f:Fr G w w')(hd:∀i,F i->¬G i):LRu w' b n l ev F:=by
 obtain⟨rb,eb,FR,hc,hF⟩:=h;exact⟨rb,eb,FR,hc.fr f (hd b ((hF b).2 (.inl rfl))) (hd eb ((hF eb).2 (.inr (.inl rfl)))) (λi hi=>hd i ((hF i).2 (.inr (.inr hi)))),hF⟩
theorem LRu.lt{w:World}{b n:Nat}{l:List Nat}{ev:Nat->Bool}{F:Nat->Prop}(h:LRu w b n l ev F):∀i,F i->i<w.heap.size:=by
 obtain⟨rb,eb,FR,hc,hF⟩:=h;intro i hi;rcases(hF i).1 hi with rfl|rfl|q
 .exact hc.hd.lt
 .exact hc.be.lt
 .exact hc.rr.lt i q
theorem rowIx1(l:List Nat)(x:Nat):rowIx [l] x=if x∈l then some 0 else none:=by
 by_cases h:x∈l<;>simp[rowIx,List.findIdx?_cons,h]
theorem outL1(l:List Nat)(x:Nat):outL [l] x=[awayL l x]:=by
 by_cases h:x∈l
 .simp[outL,rowIx1,h,awayL]
 .simp only[outL,rowIx1,if_neg h,awayL,filter_not h]
theorem putL1(l:List Nat)(x:Nat):putL [l] 0 x false=[backL l x]:=by
 simp[putL,outL1,backL]
theorem RR.len0{w:World}{b n:Nat}{l:List Nat}{F:Nat->Prop}(h:RR w b n 1 [l] F):l.length<=n:=by
 have:=List.Nodup.length_le_of_subset (l₁:=l) (l₂:=List.range n) h.row0.1 (λy hy=>List.mem_range.2 (h.row0.2 y hy));simpa using this
section
variable{w:World}{b rb eb n:Nat}{l:List Nat}{ev:Nat->Bool}{F FR:Nat->Prop}
theorem LCu.c0(h:LCu w b rb eb n l ev FR):w.cell? ⟨b,0,none⟩=some (.pointer (some ⟨rb,0,none⟩)):=h.hd.cell (by omega)
theorem LCu.c1(h:LCu w b rb eb n l ev FR):w.cell? ⟨b,1,none⟩=some (.slice (some ⟨eb,0,none⟩) n n):=h.hd.cell (by omega)
theorem LCu.c2(h:LCu w b rb eb n l ev FR):w.cell? ⟨b,2,none⟩=some (.int .i64 (cntL l ev:Nat)):=h.hd.cell (by omega)
theorem LCu.ce(h:LCu w b rb eb n l ev FR){f:Nat}(hf:f<n):w.cell? ⟨eb,f,none⟩=some (.bool (ev f)):=h.be.cell hf
theorem lru_miss(a:Option Addr)(p:Int):Calls prog 135 #[.pointer a,.int .u32 p] w λe w'=>e=.returned (.tuple #[])/\w=w':=by
 go_enter func135,ntmps135;go_wp2
 go_end0
 exact⟨rfl,rfl⟩
theorem lru_size(h:LCu w b rb eb n l ev FR):Calls prog 138 #[.pointer (some ⟨b,0,none⟩)] w λe w'=>e=.returned (.int .i64 (cntL l ev:Nat))/\w=w':=by
 have c2:=h.c2;go_enter func138,ntmps138;go_wp2
 go_ret
 exact⟨rfl,rfl⟩
end
section
variable{w:World}{b rb eb n:Nat}{l:List Nat}{ev:Nat->Bool}{F FR:Nat->Prop}
theorem lru_has(h:LCu w b rb eb n l ev FR)(f:Nat):Calls prog 140 #[.pointer (some ⟨b,0,none⟩),.int .i64 f] w λe w'=>e=.returned (.bool (decide (f∈l)))/\w=w':=by
 have c0:=h.c0;have HI:=In_all h.rr f;rw[ixZ_nat,rowIx1]at HI;by_cases hm:f∈l
 .rw[if_pos hm]at HI
  have H:=Hd HI;have HD:Hid (decide (f∈l)=true):=by simp[Hid,hm]
  simp only[ixI]at H;rw[HD.out];clear HI hm HD;go_enter func140,ntmps140
  go_wp2_with(go_at_call 111;refine H.out.mono ?_;rintro e w'⟨rfl,rfl⟩)
  go_ret
  exact⟨rfl,rfl⟩
 .rw[if_neg hm]at HI
  have H:=Hd HI;have HD:Hid (decide (f∈l)=false):=by simp[Hid,hm]
  simp only[ixI]at H;rw[HD.out];clear HI hm HD;go_enter func140,ntmps140
  go_wp2_with(go_at_call 111;refine H.out.mono ?_;rintro e w'⟨rfl,rfl⟩)
  go_ret
  exact⟨rfl,rfl⟩
theorem lru_access(h:LRu w b n l ev F)(f:Nat)(hf:f<n)(p:Int):
  Calls prog 133 #[.pointer (some ⟨b,0,none⟩),.int .i64 f,.int .u32 p] w λe w'=>e=.returned (.tuple #[])/\LRu w' b n (backL l f) ev F/\Fr F w w':=by
 obtain⟨rb,eb,FR,hc,hF⟩:=h;have c0:=hc.c0;have HB:=Hd (back_yes hc.rr 0 f (by omega) hf);have HF:=Hd hF;clear hF;go_enter func133,ntmps133
 go_wp2_with fail
 refine HB.out.mono ?_;clear HB;rintro e w'⟨rfl,hR,f1⟩;rw[putL1]at hR
 have key:LRu w' b n (backL l f) ev F:=by
  refine⟨rb,eb,FR,⟨?_,hc.be.fr f1 hc.d3,hR,hc.d1,hc.d2,hc.d3,λg hg=>mem_back.2 (.inl (hc.out g hg)),hc.hn⟩,HF.out⟩;rw[cnt_back hc.rr.row0.1 ev f (hc.out f)];exact hc.hd.fr f1 hc.d2
 have hf1:Fr F w w':=f1.mono (λi q=>(HF.out i).2 (.inr (.inr q)));clear hR f1;go_wp2
 go_end0
 exact⟨rfl,key,hf1⟩
theorem lruH_sz(rb eb n s z:Nat):upd (lruH rb eb n s) 2 (.int .i64 z)=lruH rb eb n z:=by
 funext j
 match j with
 |0=>rfl
 |1=>rfl
 |2=>rfl
 |j+3=>simp[upd,lruH]
def setL(l:List Nat)(ev:Nat->Bool)(f:Nat)(v:Bool):Nat->Bool:=if f∈l then upd ev f v else ev
theorem LCu.set(h:LCu w b rb eb n l ev FR){f:Nat}(hm:f∈l)(v:Bool){z:Nat}(hz:z=cntL l (upd ev f v)):
  LCu ((w.setCell ⟨eb,f,none⟩ (.bool v)).setCell ⟨b,2,none⟩ (.int .i64 z)) b rb eb n l (upd ev f v) FR:=by
 subst hz
 have hR:RR ((w.setCell ⟨eb,f,none⟩ (.bool v)).setCell ⟨b,2,none⟩ (.int .i64 (cntL l (upd ev f v):Nat))) rb n 1 [l] FR:=by
  refine h.rr.fr (G:=λi=>i=b\/i=eb) (((Fr.refl _ _).setCell (.inl (.inr rfl)) _).setCell (.inl (.inl rfl)) _) ?_;intro i hi q;rcases q with rfl|rfl
  .exact h.d2 hi
  .exact h.d3 hi
 refine⟨?_,?_,hR,h.d1,h.d2,h.d3,?_,h.hn⟩
 .rw[<-lruH_sz rb eb n (cntL l ev)]
  exact(h.hd.other h.d1 _).set _ _
 .rw[<-bF_set]
  exact(h.be.set _ _).other (λe=>h.d1 e.symm) _
 .intro g hg
  by_cases e:g=f
  .rw[e];exact hm
  .rw[upd_other _ _ e]at hg;exact h.out g hg
theorem lru_set(h:LRu w b n l ev F)(f:Nat)(hf:f<n)(v:Bool):
  Calls prog 137 #[.pointer (some ⟨b,0,none⟩),.int .i64 f,.bool v] w λe w'=>e=.returned (.tuple #[])/\LRu w' b n l (setL l ev f v) F/\Fr F w w':=by
 obtain⟨rb,eb,FR,hc,hF⟩:=h;have HF:=Hd hF;have HH:=lru_has hc f;have hn:=hc.hn;have hcl:=cnt_le l ev;have hln:=hc.rr.len0;clear hF;by_cases hm:f∈l
 .have c1:=hc.c1
  have c2:=hc.c2;have ce:=hc.ce hf;have fe:∀i,w.frozen? ⟨eb,i,none⟩=false:=λi=>hc.be.frozen i
  have fb:w.frozen? ⟨b,2,none⟩=false:=hc.hd.frozen 2;have le:=hc.be.lt;have lb:=hc.hd.lt;have hd1:=hc.d1;have hd1':¬eb=b:=λe=>hd1 e.symm
  have hcu:=cnt_upd hc.rr.row0.1 ev f v hm;have HC:∀z,z=cntL l (upd ev f v)->LCu ((w.setCell ⟨eb,f,none⟩ (.bool v)).setCell ⟨b,2,none⟩ (.int .i64 z)) b rb eb n l (upd ev f v) FR:=λz hz=>hc.set hm v hz
  have HC':=Hd HC;rw[show decide (f∈l)=true from by simp[hm]]at HH;have H:=Hd HH;have HS:Hid (setL l ev f v=upd ev f v):=by simp[Hid,setL,hm]
  have HU:Hid (ev f=v->upd ev f v=ev):=by
   intro e;funext j;unfold upd;split
   .subst j;exact e.symm
   .rfl
  have HLR:Hid (LCu w b rb eb n l ev FR):=hc
  have hfr:∀z,Fr F w ((w.setCell ⟨eb,f,none⟩ (.bool v)).setCell ⟨b,2,none⟩ (.int .i64 z)):=λz=>
   ((Fr.refl F w).setCell (.inl ((HF.out eb).2 (.inr (.inl rfl)))) _).setCell (.inl ((HF.out b).2 (.inl rfl))) _
  have HFR:=Hd hfr;clear hc HH hm HC hfr;rw[HS.out];clear HS;generalize hev:ev f=x at*;have HE:=Hd hev;clear hev
  cases x<;>cases v
  .have hu:=HU.out rfl
   rw[hu];clear hu HU hcu;go_enter func137,ntmps137
   go_wp2_with(go_at_call 140;refine H.out.mono ?_;rintro e w'⟨rfl,rfl⟩)
   go_returns;exact⟨rfl,⟨rb,eb,FR,HLR.out,HF.out⟩,Fr.refl _ _⟩
  .simp at hcu
   have HCU:=Hd hcu;clear hcu;go_enter func137,ntmps137
   go_wp2_with(go_at_call 140;refine H.out.mono ?_;rintro e w'⟨rfl,rfl⟩)
   go_returns;have e1:(((cntL l ev:Nat):Int)+1)=((cntL l ev+1:Nat):Int):=by omega
   rw[e1];exact⟨rfl,⟨rb,eb,FR,HC'.out _ (by have:=HCU.out;omega),HF.out⟩,HFR.out _⟩
  .simp at hcu
   have h1:1<=((cntL l ev:Nat):Int):=by omega
   have HCU:=Hd hcu;clear hcu;go_enter func137,ntmps137
   go_wp2_with(go_at_call 140;refine H.out.mono ?_;rintro e w'⟨rfl,rfl⟩)
   go_returns;have e1:(((cntL l ev:Nat):Int)-1)=((cntL l ev-1:Nat):Int):=by omega
   rw[e1];exact⟨rfl,⟨rb,eb,FR,HC'.out _ (by have:=HCU.out;omega),HF.out⟩,HFR.out _⟩
  .have hu:=HU.out rfl
   rw[hu];clear hu HU hcu;go_enter func137,ntmps137
   go_wp2_with(go_at_call 140;refine H.out.mono ?_;rintro e w'⟨rfl,rfl⟩)
   go_returns;exact⟨rfl,⟨rb,eb,FR,HLR.out,HF.out⟩,Fr.refl _ _⟩
 .rw[show decide (f∈l)=false from by simp[hm]]at HH
  have H:=Hd HH;rw[show setL l ev f v=ev from by simp[setL,hm]];have HLR:Hid (LCu w b rb eb n l ev FR):=hc;clear hc HH hm;go_enter func137,ntmps137
  go_wp2_with(go_at_call 140;refine H.out.mono ?_;rintro e w'⟨rfl,rfl⟩)
  go_returns;exact⟨rfl,⟨rb,eb,FR,HLR.out,HF.out⟩,Fr.refl _ _⟩
end
section
variable{w:World}{b rb eb n:Nat}{l:List Nat}{ev:Nat->Bool}{F FR:Nat->Prop}
theorem lru_remove(h:LRu w b n l ev F)(f:Nat)(hf:f<n):
  Calls prog 136 #[.pointer (some ⟨b,0,none⟩),.int .i64 f] w λe w'=>e=.returned (.tuple #[])/\LRu w' b n (awayL l f) (setL l ev f false) F/\Fr F w w':=by
 have HS:=Hd (lru_set h f hf false);obtain⟨rb,eb,FR,hc,hF⟩:=h;have hF0:=Hd hF;have HH:=lru_has hc f;by_cases hm:f∈l
 .rw[show decide (f∈l)=true from by simp[hm]]at HH
  have H:=Hd HH;have HM:=Hd hm;clear HH hm hF hc;go_enter func136,ntmps136
  go_wp2_with(go_at_call 140;refine H.out.mono ?_;rintro e w'⟨rfl,rfl⟩)
  refine HS.out.mono ?_;clear HS;rintro e w1⟨rfl,⟨rb1,eb1,FR1,hc1,hF1⟩,f1⟩;have HF1:=Hd hF1;have c0:=hc1.c0;have HO:=Hd (Out_all hc1.rr f);have HC1:=Hd hc1;have HF:=Hd f1;clear hF1 hc1 f1
  go_wp2_with fail
  refine HO.out.mono ?_;clear HO;rintro e w2⟨rfl,hR,f2⟩
  have hR':RR w2 rb1 n 1 [awayL l f] FR1:=by
   have:outZ [l] (f:Int)=[awayL l f]:=by rw[outZ,if_pos (by omega)];exact outL1 l f
   rw[this]at hR;exact hR
  have hs:setL l ev f false=upd ev f false:=by simp[setL,HM.out]
  have key:LRu w2 b n (awayL l f) (setL l ev f false) F:=by
   have hc1:=HC1.out;refine⟨rb1,eb1,FR1,⟨?_,hc1.be.fr f2 hc1.d3,hR',hc1.d1,hc1.d2,hc1.d3,λg hg=>?_,hc1.hn⟩,HF1.out⟩
   .have h1:=cnt_away hc1.rr.row0.1 (setL l ev f false) f
    rw[if_neg (by rw[hs,upd_same];simp)]at h1;rw[show cntL (awayL l f) (setL l ev f false)=cntL l (setL l ev f false)from by omega];exact hc1.hd.fr f2 hc1.d2
   .refine mem_away.2 ⟨hc1.out g hg,λe=>?_⟩
    rw[hs,e,upd_same]at hg;cases hg
  have hfr:Fr F w w2:=HF.out.trans f2 (λi q=>.inl ((HF1.out i).2 (.inr (.inr q))));clear hR hR' f2 hs;go_wp2;go_returns;exact⟨rfl,key,hfr⟩
 .rw[show decide (f∈l)=false from by simp[hm]]at HH
  have H:=Hd HH;have hs:setL l ev f false=ev:=by simp[setL,hm]
  have ha:awayL l f=l:=filter_not hm;rw[hs,ha];have HC:=Hd hc;clear HH hm hF hs ha hc;go_enter func136,ntmps136
  go_wp2_with(go_at_call 140;refine H.out.mono ?_;rintro e w'⟨rfl,rfl⟩)
  go_returns;exact⟨rfl,⟨rb,eb,FR,HC.out,hF0.out⟩,Fr.refl _ _⟩
def firstL(l:List Nat)(ev:Nat->Bool):Option Nat:=l.find? ev
theorem firstL_none{l:List Nat}{ev:Nat->Bool}(h:cntL l ev=0):firstL l ev=none:=by
 unfold firstL cntL at*;rw[List.find?_eq_none];intro x hx hev;have:x∈l.filter ev:=List.mem_filter.2 ⟨hx,hev⟩;rw[List.eq_nil_of_length_eq_zero h]at this
 cases this
theorem firstL_some{l:List Nat}{ev:Nat->Bool}(h:0<cntL l ev):∃(f j:Nat),firstL l ev=some f/\l[j]?=some f/\ev f=true/\∀(i g:Nat),i<j->l[i]?=some g->ev g=false:=by
 unfold firstL cntL at*;obtain⟨x,hx⟩:=List.exists_mem_of_length_pos h;obtain⟨hx1,hx2⟩:=List.mem_filter.1 hx;obtain⟨f,hf⟩:=Option.isSome_iff_exists.1 (List.find?_isSome.2 ⟨x,hx1,hx2⟩);obtain⟨he,j,hj,hjf,hb⟩:=List.find?_eq_some_iff_getElem.1 hf;refine⟨f,j,hf,by rw[List.getElem?_eq_getElem hj,hjf],he,λi g hi hg=>?_⟩;have:=hb i hi;rw[List.getElem?_eq_getElem (by omega)]at hg;have e:=Option.some.inj hg;rw[e]at this;simpa using this
theorem lru_victim_no(h:LRu w b n l ev F)(p:Int)(h0:cntL l ev=0):
  Calls prog 139 #[.pointer (some ⟨b,0,none⟩),.int .u32 p] w λe w'=>e=.returned (.tuple #[.int .i64 0,.bool false])/\w=w':=by
 obtain⟨rb,eb,FR,hc,hF⟩:=h;have HZ:=lru_size hc;rw[h0]at HZ;have H:=Hd HZ;clear HZ h0 hF hc;go_enter func139,ntmps139
 go_wp2_with(go_at_call 138;refine H.out.mono ?_;rintro e w'⟨rfl,rfl⟩)
 go_returns;exact⟨rfl,rfl⟩
theorem lru_victim_yes(h:LRu w b n l ev F)(p:Int)(f:Nat)(h0:firstL l ev=some f):
  Calls prog 139 #[.pointer (some ⟨b,0,none⟩),.int .u32 p] w λe w'=>e=.returned (.tuple #[.int .i64 f,.bool true])/\LRu w' b n (awayL l f) (setL l ev f false) F/\Fr F w w':=by
 have HLR:=Hd h;obtain⟨rb,eb,FR,hc,hF⟩:=h
 have hcnt:0<cntL l ev:=by
  rcases Nat.eq_zero_or_pos (cntL l ev)with q|q
  .rw[firstL_none q]at h0;cases h0
  .exact q
 obtain⟨f',j,e1,hj,hev,hbef⟩:=firstL_some hcnt;rw[h0]at e1;obtain rfl:=Option.some.inj e1;have hjl:j<l.length:=(List.getElem?_eq_some_iff.1 hj).1;have hln:=hc.rr.len0;have hn:=hc.hn;have hcl:=cnt_le l ev;have hfn:f<n:=hc.rr.row0.2 f (List.mem_of_getElem? hj);have HZ:=Hd (lru_size hc);have HFI:=First_all hc.rr 0;rw[show rowZ [l] 0=l from rfl,List.head?_eq_getElem?]at HFI;have HF1:=Hd HFI
 have HNX:Hid (∀(i x:Nat) (d:Nat),l[i]?=some x->Calls prog 142 #[.pointer (some ⟨rb,0,none⟩),.int .i64 x] (w.drewN d) λe w'=>e=.returned (.int .i64 (ixI l[i+1]?))/\w.drewN d=w'):=by
  intro i x d hi;have hR:=hc.rr.fr ((Fr.refl NoF w).drewN d) (λ_ _ q=>q);have:=(rowZ_facts hR 0).2 i x (by simpa[rowZ]using hi);rw[show rowZ [l] 0=l from rfl]at this;rw[<-this];exact Next_all hR x
 have c0:=hc.c0;have c1:=hc.c1
 have HCE:Hid (∀i x,i<=j->l[i]?=some x->x<n/\w.cell? ⟨eb,x,none⟩=some (.bool (ev x))):=λi x hi hx=>by
  have hxn:=hc.rr.row0.2 x (List.mem_of_getElem? hx);exact⟨hxn,hc.ce hxn⟩
 have HB:=Hd hbef;have HJ:=Hd hj;have HE:=Hd hev;have hcnt':((cntL l ev:Nat):Int)≠0:=by omega
 have hcnt2:(((cntL l ev:Nat):Int)==0)=false:=by simp;omega
 have HRM:Hid (∀d,Calls prog 136 #[.pointer (some ⟨b,0,none⟩),.int .i64 f] (w.drewN d) λe w'=>e=.returned (.tuple #[])/\LRu w' b n (awayL l f) (setL l ev f false) F/\Fr F w w'):=by
  intro d;refine(lru_remove (HLR.out.fr ((Fr.refl NoF w).drewN d) (λ_ _ q=>q)) f hfn).mono ?_;rintro e w'⟨he,hl,hf⟩;exact⟨he,hl,((Fr.refl F w).drewN d).trans hf (λ_ q=>.inl q)⟩
 clear hc hF hbef hj hev h0 HFI e1 hcnt hcnt';go_enter func139,ntmps139
 go_wp2_with(first
  |(go_at_call 138;refine HZ.out.mono ?_;rintro e w'⟨rfl,rfl⟩)
  |(go_at_call 141;refine HF1.out.mono ?_;rintro e w'⟨rfl,d,rfl⟩))
 clear HZ HF1
 go_loopg [6] j (λg i wr=>∃k:Nat,k<=j/\g=j-k/\i=.int .i64 (ixI l[k]?)/\∃d,w.drewN d=wr)
 case atStart=>exact⟨0,Nat.zero_le _,by omega,rfl,d,rfl⟩
 case round=>
  obtain⟨k,hk,rfl,rfl,d,rfl⟩:=hrel;by_cases hkj:k<j
  .have hkl:k<l.length:=by omega
   obtain⟨hxn,hce⟩:=HCE.out k l[k] hk (List.getElem?_eq_getElem hkl);rw[HB.out k l[k] hkj (List.getElem?_eq_getElem hkl)]at hce;have HN:=Hd (HNX.out k l[k] d (List.getElem?_eq_getElem hkl));rw[show ixI l[k]?=(l[k]:Nat)from by simp[ixI,hkl]];generalize l[k]=x at*
   go_wp2_with(go_at_call 142;refine HN.out.mono ?_;rintro e w'⟨rfl,rfl⟩)
   go_roundg (j-(k+1))
   case measure=>omega
   case rel=>exact⟨k+1,by omega,rfl,rfl,d,rfl⟩
  .obtain rfl:k=j:=by omega
   obtain⟨hxn,hce⟩:=HCE.out k f (Nat.le_refl _) HJ.out;rw[HE.out]at hce;rw[show ixI l[k]?=(f:Nat)from by simp[ixI,HJ.out]]
   go_wp2_with fail
   refine(HRM.out d).mono ?_;rintro e w'⟨rfl,hl,hf⟩;have HL:=Hd hl;have HFr:=Hd hf;clear hl hf;go_wp2;go_returns;exact⟨rfl,HL.out,HFr.out⟩
end
end
end Go.Proofs.YtpkbkhffglikhaaGreatDoor
