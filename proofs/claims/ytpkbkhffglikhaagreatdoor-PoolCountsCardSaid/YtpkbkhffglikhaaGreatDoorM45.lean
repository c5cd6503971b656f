/-
  PoolCounts: the disk is read no more often than a page is fetched, of one that is in a frame not at all; it is written no more often than a page became dirty: the row, and its card. No condition of its own; the library's table of trailing zeros (math/bits.deBruijn64tab) is as its initialiser lays it: the card ties it to the program's text.
-/
import Derived.Test.YtpkbkhffglikhaaGreatDoorM44
import Derived.Test.YtpkbkhffglikhaaGreatDoorCards
namespace Go.Proofs.YtpkbkhffglikhaaGreatDoor
set_option linter.all false
set_option maxHeartbeats 16000000
set_option maxRecDepth 100000
section
open Go.ChangeAt Go.ChangeShapes Go.Proofs.Tryz Go.RowKit Go.WideShapes
namespace poolCounts
theorem cellsI:prog.cellsOf 3=1:=by kernel_rfl
theorem cellsA:prog.cellsOf 45=2:=by kernel_rfl
theorem list2{α:Type}(l:List α)(h:(⟨l⟩:Array α).size=2):∃a b,l=[a,b]:=by
 match l,h with
 |[a,b],_=>exact⟨a,b,rfl⟩
theorem trod_array2{H:Type}{enc:TypeId×Value->H}{P:Program}{w:World}{base:Nat}{spare:Nat->Bool}{held:Bool}{t e:TypeId}{fuel:Nat}{c0 c1:Value}{x:DataW H×List MemPlace}(ht:P.underlying t=some (.array 2 e))(hce:P.cellsOf e=1)
  (h:DataW.trod enc P w base spare held fuel t [c0,c1]=some x):
  ∃y0 y1 n,x=(.agg [y0.1,y1.1],y0.2++y1.2)/\DataW.trod enc P w base spare held n e [c0]=some y0/\DataW.trod enc P w base spare held n e [c1]=some y1:=by
 cases fuel with
 |zero=>simp[DataW.trod]at h
 |succ n=>
  unfold DataW.trod at h;rw[ht]at h;have r2:List.range 2=[0,1]:=rfl;simp[r2,hce]at h;obtain⟨_,h⟩:=h
  cases h0:DataW.trod enc P w base spare held n e [c0]with
  |none=>simp[h0]at h
  |some y0=>
   cases h1:DataW.trod enc P w base spare held n e [c1]with
   |none=>simp[h0,h1]at h
   |some y1=>
    simp[h0,h1]at h;exact⟨y0,y1,n,h.symm,h0,h1⟩
theorem open2{H:Type}{enc:TypeId×Value->H}{W:World}{base:Nat}{sp:Nat->Bool}{held:Bool}{v:Value}{d:DataW H}{p:List MemPlace}(hval:Value.okWide prog W .any base 45 v)(h:DataW.Trod enc prog W 0 sp held 45 v d p):
  ∃x0 x1:Int,v=.agg #[.int .i64 x0,.int .i64 x1]/\d=.agg [.lit (.int .i64 x0),.lit (.int .i64 x1)]/\p=[]/\(Lit.int .i64 x0).wf=true/\(Lit.int .i64 x1).wf=true:=by
 obtain⟨cs,rfl,hsz,_⟩:∃cs,v=.agg cs/\cs.size=prog.cellsOf 45/\Row.okWide prog W .any base 45 cs:=by
  simpa[Value.okWide,underlying45]using hval
 rw[cellsA]at hsz;obtain⟨l⟩:=cs;obtain⟨c0,c1,rfl⟩:=list2 l hsz;obtain⟨fuel,hf⟩:=h;obtain⟨y0,y1,m,hx,hy0,hy1⟩:=trod_array2 underlying45 cellsI hf;obtain⟨x0,e0,rfl,w0⟩:=DataW.trod_int underlying3 hy0;obtain⟨x1,e1,rfl,w1⟩:=DataW.trod_int underlying3 hy1;simp at e0 e1;subst e0 e1;simp only[Prod.mk.injEq]at hx;obtain⟨rfl,rfl⟩:=hx;exact⟨x0,x1,rfl,rfl,rfl,w0,w1⟩
theorem shut2{H:Type}{enc:TypeId×Value->H}(W:World)(base:Nat)(sp:Nat->Bool)(held:Bool){x0 x1:Int}(w0:(Lit.int .i64 x0).wf=true)(w1:(Lit.int .i64 x1).wf=true):
  DataW.Trod enc prog W base sp held 45 (.agg #[.int .i64 x0,.int .i64 x1]) (.agg [.lit (.int .i64 x0),.lit (.int .i64 x1)]) []:=
 ⟨2,by simp[DataW.trod,Value.cells,underlying45,underlying3,cellsI,cellsA,w0,w1,List.range,List.range.loop]⟩
theorem lifted(os:Os)(started:os.Started)(H:Type)(enc:TypeId×Value->H):
  ReturnsInHanded {} Tryz.checked os 4 .any (λw args=>(Rows.poolCountsSpec.pre enc prog Tryz.f4 Rows.poolCountsRow.domain false w args/\laidMet prog Rows.poolCountsRow.laid w)/\sizedMet enc prog Tryz.f4 (OpenSpec.ofChange Rows.poolCountsSpec) false w args)
   (Rows.poolCountsSpec.post enc prog Tryz.f4 false true false false):=by
 refine returnsInHanded_of_change_and (C:=Tryz.checked) (X:=λw _=>laidMet prog Rows.poolCountsRow.laid w) (λ_ _ _ hh h=>h.of_heap hh) ownM started (by kernel_rfl) func4
  (ChangeSpec.witness_at (enc:=enc) (C:=Tryz.checked) (os:=os) (X:=λw _=>laidMet prog Rows.poolCountsRow.laid w) false (tabWorld os) #[.agg #[.int .i64 0,.int .i64 0],.slice none 0 0,.slice none 0 0] 8 rfl (by kernel_rfl) (by kernel_rfl) (by kernel_rfl) (by kernel_rfl) (by kernel_rfl) (tab_met os _)) ?_
 intro W base args ds gs before hval0 hW _ _ hL _;have hval:∀(j:Nat) t v,Tryz.f4.params[j]?=some t->args[j]?=some v->Value.okWide prog W .any base t v:=hval0;have hW':=hW;obtain⟨p,q,hA0,hV,rfl,hfz,hnd⟩:=hW;have hA:DataW.TrodAll enc prog W 0 (λ_=>true) true Tryz.f4.params.toList args.toList ds p:=hA0;rw[Tryz.params4]at hA hval;obtain⟨v0,vs0,d0,ds0,p0,q0,hargs,rfl,rfl,h0,r0⟩:=trodAll_cons hA;obtain⟨v1,vs1,d1,ds1,p1,q1,rfl,rfl,rfl,h1,r1⟩:=trodAll_cons r0;obtain⟨v2,vs2,d2,ds2,p2,q2,rfl,rfl,rfl,h2,r2⟩:=trodAll_cons r1;obtain⟨rfl,rfl,rfl⟩:=trodAll_nil r2;obtain rfl:args=#[v0,v1,v2]:=by cases args;simp_all
 obtain⟨rfl,rfl⟩:=trodVars_none hV;obtain⟨x0,x1,rfl,rfl,rfl,w0,w0'⟩:=open2 (hval 0 45 v0 rfl rfl) h0;obtain⟨a1,len1,cap1,rfl⟩:=okWide_slice underlying23 (hval 1 23 v1 rfl rfl);obtain⟨a2,len2,cap2,rfl⟩:=okWide_slice underlying24 (hval 2 24 v2 rfl rfl);have hv2:∀a,a2=some a->a.spot=none/\a.block<W.heap.size:=λa e=>by subst e;exact has_slice (hval 2 24 _ rfl rfl)
 have k1:=h1;have k2:=h2;have lt1:∀x∈p1,x.block<W.heap.size:=by obtain⟨m,hm⟩:=k1;exact DataW.trod_lt m _ _ _ hm
 have lt2:∀x∈p2,x.block<W.heap.size:=by obtain⟨m,hm⟩:=k2;exact DataW.trod_lt m _ _ _ hm
 obtain⟨zs,wz⟩:∃zs,ArgZ W (.slice a1 len1 cap1) zs:=by
  obtain⟨fuel,hf⟩:=h1;exact argO_of hf
 obtain⟨l,wl,_⟩:∃l:List Int,SlZ W (.slice a2 len2 cap2) l/\l.length=len2:=by
  obtain⟨fuel,hf⟩:=h2;exact argI_of hv2 hf
 clear hA0 hval0;have hT:TabT W:=tabT_of hL;simp only[List.append_nil,List.nil_append]at hW';refine(counts_walk x0 x1 _ _ zs l W wz wl hT).mono λe W' ⟨he,hf⟩=>?_
 have bel:Below W.heap.size W W':=⟨hf.os,hf.tape,hf.output,hf.size,λk hk=>hf.block k hk id⟩;subst he;exact⟨_,rfl,_,_,_,[],_,[],hW',trodAll_mk1 (shut_bool underlying4 _),(trodAll_cons_mk (shut2 W' _ _ _ w0 w0') (trodAll_cons_mk (Below.trod laidOutM (by kernel_rfl) (of_decide_eq_true (by kernel_rfl)) k1 bel lt1) (trodAll_cons_mk (Below.trod laidOutM (by kernel_rfl) (of_decide_eq_true (by kernel_rfl)) k2 bel lt2) trodAll_mk0))),rfl,bel.frame _,λh=>by cases h⟩
theorem said:Rows.PoolCountsSaid:=
 OpenClaim.holds_of_wide 4 Tryz.f4 rfl rfl rfl rfl rfl rfl rfl ⟨rfl,rfl,rfl,rfl,rfl⟩ rfl rfl rfl rfl rfl (by kernel_rfl) func4 (by kernel_rfl)
  (of_decide_eq_true (by kernel_rfl)) (by unfold Func.isWrapper;first|(rw[if_pos (by decide+kernel)];kernel_rfl)|(rw[if_neg (by decide+kernel)];exact⟨rfl,rfl⟩))
  (λos started H enc _=>lifted os started H enc)
theorem proved:Rows.PoolCountsCardSaid:=
 Claim7.holds_tied_plain_at .later [] [.data] true (true, "3feeb3be4f06a5aa590059b5607b29710dd3f67bc922df5a704256520de4cf0f") true
  said (λ_ h=>by cases h) (by kernel_rfl) (λ_ h=>by cases h) poolCounts_row_tie rfl ⟨rfl,rfl⟩ (by kernel_rfl) rfl
  (λf fn hf hfn=>by
   obtain rfl:f=4:=Option.some.inj ((show prog.funcNamed "hatcheck/hatchecklaw09.PoolCounts" =some 4 by kernel_rfl).symm.trans hf)|>.symm
   obtain rfl:fn=Tryz.f4:=(Option.some.inj (func4.symm.trans hfn)).symm
   exact⟨by kernel_rfl,λj t ht=>by
    rw[Tryz.params4]at ht
    have h3:t=45\/t=23\/t=24:=by
     rcases j with _|_|_|j
     .left;simpa using ht.symm
     .right;left;simpa using ht.symm
     .right;right;simpa using ht.symm
     .simp at ht
    rcases h3 with rfl|rfl|rfl
    .exact(show prog.wantsStandIn 45=false by kernel_rfl)
    .exact(show prog.wantsStandIn 23=false by kernel_rfl)
    .exact(show prog.wantsStandIn 24=false by kernel_rfl)⟩)
  (by kernel_rfl)
#print axioms proved
end poolCounts
end
end Go.Proofs.YtpkbkhffglikhaaGreatDoor
