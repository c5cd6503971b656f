/-
  LrukNews: of all numbers, New tells whether there may be an LRUK of them. No condition.
-/
import Derived.Test.YtcccbdnojlmgaaaK31
namespace Go.Proofs.Ytcccbdnojlmgaaa
set_option linter.all false
set_option maxHeartbeats 16000000
set_option maxRecDepth 100000
section
open Go.ChangeAt Go.ChangeShapes Go.RowKit Go.WideShapes
namespace lrukNews
theorem own:ownKnob Try.prog.godebug=none:=by kernel_rfl
theorem walk(a0 a1 a2 a3:Int)(w:World):Calls Try.prog 4 #[.int .i64 a0,.int .i64 a1,.agg #[.int .i64 a2,.int .i64 a3]] w fun e w'=>e=.returned (.bool true)∧Fr NoF w w':=by
 have fA:Fr NoF w (w.alloc (.cells #[.int .i64 a2,.int .i64 a3] 42)):=(Fr.refl NoF w).alloc _
 have bA:Blk (w.alloc (.cells #[.int .i64 a2,.int .i64 a3] 42)) w.heap.size 2 (fun i=>if i=0 then .int .i64 a2 else .int .i64 a3):=Blk.new w _ _ 2 _ _ rfl rfl (fun i hi=>by
  match i,hi with
  |0,_|1,_=>rfl)
 have HFA:=Lib.hid fA;have HBA:=Lib.hid bA;clear fA bA;by_cases la0:a0<1
 .have HN:=Lib.hid (lnew_no a0 a1 a2 a3 (w.alloc (.cells #[.int .i64 a2,.int .i64 a3] 42)) (by unfold goodL;omega))
  have da0:decide (1<=a0)=false:=by simp;omega
  go_enter Try.func4,Try.ntmps4
  go_wp2_with fail
  refine HN.out.mono ?_;rintro e w1⟨rfl,rfl⟩;have y0:=HBA.out.cell (i:=0) (by omega);have y1:=HBA.out.cell (i:=1) (by omega);have ly:=HBA.out.lt
  go_wp2_with(go_at_call 6;refine(toldK_calls _).mono ?_;rintro e w2⟨rfl,hf2⟩)
  go_returns;exact⟨rfl,HFA.out.trans hf2 (fun _ q=>q.elim)⟩
 by_cases ua0:65535<a0
 .have HN:=Lib.hid (lnew_no a0 a1 a2 a3 (w.alloc (.cells #[.int .i64 a2,.int .i64 a3] 42)) (by unfold goodL;omega))
  have pa0:1<=a0:=by omega
  have da0:decide (a0<=65535)=false:=by simp;omega
  go_enter Try.func4,Try.ntmps4
  go_wp2_with fail
  refine HN.out.mono ?_;rintro e w1⟨rfl,rfl⟩;have y0:=HBA.out.cell (i:=0) (by omega);have y1:=HBA.out.cell (i:=1) (by omega);have ly:=HBA.out.lt
  go_wp2_with(go_at_call 6;refine(toldK_calls _).mono ?_;rintro e w2⟨rfl,hf2⟩)
  go_returns;exact⟨rfl,HFA.out.trans hf2 (fun _ q=>q.elim)⟩
 by_cases la1:a1<1
 .have HN:=Lib.hid (lnew_no a0 a1 a2 a3 (w.alloc (.cells #[.int .i64 a2,.int .i64 a3] 42)) (by unfold goodL;omega))
  have pa0:1<=a0:=by omega
  have qa0:a0<=65535:=by omega
  have da1:decide (1<=a1)=false:=by simp;omega
  go_enter Try.func4,Try.ntmps4
  go_wp2_with fail
  refine HN.out.mono ?_;rintro e w1⟨rfl,rfl⟩;have y0:=HBA.out.cell (i:=0) (by omega);have y1:=HBA.out.cell (i:=1) (by omega);have ly:=HBA.out.lt
  go_wp2_with(go_at_call 6;refine(toldK_calls _).mono ?_;rintro e w2⟨rfl,hf2⟩)
  go_returns;exact⟨rfl,HFA.out.trans hf2 (fun _ q=>q.elim)⟩
 by_cases ua1:8<a1
 .have HN:=Lib.hid (lnew_no a0 a1 a2 a3 (w.alloc (.cells #[.int .i64 a2,.int .i64 a3] 42)) (by unfold goodL;omega))
  have pa0:1<=a0:=by omega
  have qa0:a0<=65535:=by omega
  have pa1:1<=a1:=by omega
  have da1:decide (a1<=8)=false:=by simp;omega
  go_enter Try.func4,Try.ntmps4
  go_wp2_with fail
  refine HN.out.mono ?_;rintro e w1⟨rfl,rfl⟩;have y0:=HBA.out.cell (i:=0) (by omega);have y1:=HBA.out.cell (i:=1) (by omega);have ly:=HBA.out.lt
  go_wp2_with(go_at_call 6;refine(toldK_calls _).mono ?_;rintro e w2⟨rfl,hf2⟩)
  go_returns;exact⟨rfl,HFA.out.trans hf2 (fun _ q=>q.elim)⟩
 by_cases la2:a2<0
 .have HN:=Lib.hid (lnew_no a0 a1 a2 a3 (w.alloc (.cells #[.int .i64 a2,.int .i64 a3] 42)) (by unfold goodL;omega))
  have pa0:1<=a0:=by omega
  have qa0:a0<=65535:=by omega
  have pa1:1<=a1:=by omega
  have qa1:a1<=8:=by omega
  have da2:decide (0<=a2)=false:=by simp;omega
  go_enter Try.func4,Try.ntmps4
  go_wp2_with fail
  refine HN.out.mono ?_;rintro e w1⟨rfl,rfl⟩;have y0:=HBA.out.cell (i:=0) (by omega);have y1:=HBA.out.cell (i:=1) (by omega);have ly:=HBA.out.lt
  go_wp2_with(go_at_call 6;refine(toldK_calls _).mono ?_;rintro e w2⟨rfl,hf2⟩)
  go_returns;exact⟨rfl,HFA.out.trans hf2 (fun _ q=>q.elim)⟩
 by_cases ua2:1000000<a2
 .have HN:=Lib.hid (lnew_no a0 a1 a2 a3 (w.alloc (.cells #[.int .i64 a2,.int .i64 a3] 42)) (by unfold goodL;omega))
  have pa0:1<=a0:=by omega
  have qa0:a0<=65535:=by omega
  have pa1:1<=a1:=by omega
  have qa1:a1<=8:=by omega
  have pa2:0<=a2:=by omega
  have da2:decide (a2<=1000000)=false:=by simp;omega
  go_enter Try.func4,Try.ntmps4
  go_wp2_with fail
  refine HN.out.mono ?_;rintro e w1⟨rfl,rfl⟩;have y0:=HBA.out.cell (i:=0) (by omega);have y1:=HBA.out.cell (i:=1) (by omega);have ly:=HBA.out.lt
  go_wp2_with(go_at_call 6;refine(toldK_calls _).mono ?_;rintro e w2⟨rfl,hf2⟩)
  go_returns;exact⟨rfl,HFA.out.trans hf2 (fun _ q=>q.elim)⟩
 by_cases la3:a3<0
 .have HN:=Lib.hid (lnew_no a0 a1 a2 a3 (w.alloc (.cells #[.int .i64 a2,.int .i64 a3] 42)) (by unfold goodL;omega))
  have pa0:1<=a0:=by omega
  have qa0:a0<=65535:=by omega
  have pa1:1<=a1:=by omega
  have qa1:a1<=8:=by omega
  have pa2:0<=a2:=by omega
  have qa2:a2<=1000000:=by omega
  have da3:decide (0<=a3)=false:=by simp;omega
  go_enter Try.func4,Try.ntmps4
  go_wp2_with fail
  refine HN.out.mono ?_;rintro e w1⟨rfl,rfl⟩;have y0:=HBA.out.cell (i:=0) (by omega);have y1:=HBA.out.cell (i:=1) (by omega);have ly:=HBA.out.lt
  go_wp2_with(go_at_call 6;refine(toldK_calls _).mono ?_;rintro e w2⟨rfl,hf2⟩)
  go_returns;exact⟨rfl,HFA.out.trans hf2 (fun _ q=>q.elim)⟩
 by_cases ua3:65535<a3
 .have HN:=Lib.hid (lnew_no a0 a1 a2 a3 (w.alloc (.cells #[.int .i64 a2,.int .i64 a3] 42)) (by unfold goodL;omega))
  have pa0:1<=a0:=by omega
  have qa0:a0<=65535:=by omega
  have pa1:1<=a1:=by omega
  have qa1:a1<=8:=by omega
  have pa2:0<=a2:=by omega
  have qa2:a2<=1000000:=by omega
  have pa3:0<=a3:=by omega
  have da3:decide (a3<=65535)=false:=by simp;omega
  go_enter Try.func4,Try.ntmps4
  go_wp2_with fail
  refine HN.out.mono ?_;rintro e w1⟨rfl,rfl⟩;have y0:=HBA.out.cell (i:=0) (by omega);have y1:=HBA.out.cell (i:=1) (by omega);have ly:=HBA.out.lt
  go_wp2_with(go_at_call 6;refine(toldK_calls _).mono ?_;rintro e w2⟨rfl,hf2⟩)
  go_returns;exact⟨rfl,HFA.out.trans hf2 (fun _ q=>q.elim)⟩
 obtain⟨n,rfl⟩:=Int.eq_ofNat_of_zero_le (show 0<=a0 by omega);obtain⟨k,rfl⟩:=Int.eq_ofNat_of_zero_le (show 0<=a1 by omega);obtain⟨near,rfl⟩:=Int.eq_ofNat_of_zero_le (show 0<=a2 by omega);obtain⟨kept,rfl⟩:=Int.eq_ofNat_of_zero_le (show 0<=a3 by omega);have HN:=Lib.hid (crl_new n k near kept (w.alloc (.cells #[.int .i64 near,.int .i64 kept] 42)) (by omega) (by omega) (by omega) (by omega));have d1:1<=(n:Int):=by omega
 have d2:(n:Int)<=65535:=by omega
 have d3:1<=(k:Int):=by omega
 have d4:(k:Int)<=8:=by omega
 have d5:0<=(near:Int):=by omega
 have d6:(near:Int)<=1000000:=by omega
 have d7:0<=(kept:Int):=by omega
 have d8:(kept:Int)<=65535:=by omega
 go_enter Try.func4,Try.ntmps4
 go_wp2_with fail
 refine HN.out.mono ?_;rintro e w1⟨lb,F,rfl,_,_,hf1⟩;have hb:=HBA.out.fr hf1 (fun q=>q);have HF1:=Lib.hid (HFA.out.trans hf1 (fun _ q=>q.elim));have y0:=hb.cell (i:=0) (by omega);have y1:=hb.cell (i:=1) (by omega);have ly:=hb.lt;clear hf1 hb
 go_wp2_with(go_at_call 6;refine(toldK_calls _).mono ?_;rintro e w2⟨rfl,hf2⟩)
 go_returns;exact⟨rfl,HF1.out.trans hf2 (fun _ q=>q.elim)⟩
theorem cellsI:Try.prog.cellsOf 3=1:=by kernel_rfl
theorem cellsA:Try.prog.cellsOf 42=2:=by kernel_rfl
theorem list2{α:Type}(l:List α)(h:(⟨l⟩:Array α).size=2):∃a b,l=[a,b]:=by
 match l,h with
 |[a,b],_=>exact⟨a,b,rfl⟩
theorem trod_pair{H:Type}{enc:TypeId×Value->H}{P:Program}{w:World}{base:Nat}{spare:Nat->Bool}{held:Bool}{t e:TypeId}{fuel:Nat}{c0 c1:Value}{x:DataW H×List MemPlace}(ht:P.underlying t=some (.array 2 e))(hce:P.cellsOf e=1)
  (h:DataW.trod enc P w base spare held fuel t [c0,c1]=some x):
  ∃y0 y1 n,x=(.agg [y0.1,y1.1],y0.2++y1.2)∧DataW.trod enc P w base spare held n e [c0]=some y0∧DataW.trod enc P w base spare held n e [c1]=some y1:=by
 cases fuel with
 |zero=>simp[DataW.trod]at h
 |succ n=>
  unfold DataW.trod at h;rw[ht]at h;have r2:List.range 2=[0,1]:=rfl;simp[r2,hce]at h;obtain⟨_,h⟩:=h
  cases h0:DataW.trod enc P w base spare held n e [c0]with
  |none=>simp[h0]at h
  |some y0=>
   cases h1:DataW.trod enc P w base spare held n e [c1]with
   |none=>simp[h0,h1]at h
   |some y1=>
    simp[h0,h1]at h;exact⟨y0,y1,n,h.symm,h0,h1⟩
theorem open2{H:Type}{enc:TypeId×Value->H}{W:World}{base:Nat}{sp:Nat->Bool}{held:Bool}{v:Value}{d:DataW H}{p:List MemPlace}(hval:Value.okWide Try.prog W .any base 42 v)(h:DataW.Trod enc Try.prog W 0 sp held 42 v d p):
  ∃x0 x1:Int,v=.agg #[.int .i64 x0,.int .i64 x1]∧d=.agg [.lit (.int .i64 x0),.lit (.int .i64 x1)]∧p=[]∧(Lit.int .i64 x0).wf=true∧(Lit.int .i64 x1).wf=true:=by
 obtain⟨cs,rfl,hsz,_⟩:∃cs,v=.agg cs∧cs.size=Try.prog.cellsOf 42∧Row.okWide Try.prog W .any base 42 cs:=by
  simpa[Value.okWide,Try.underlying42]using hval
 rw[cellsA]at hsz;obtain⟨l⟩:=cs;obtain⟨c0,c1,rfl⟩:=list2 l hsz;obtain⟨fuel,hf⟩:=h;obtain⟨y0,y1,m,hx,hy0,hy1⟩:=trod_pair Try.underlying42 cellsI hf;obtain⟨x0,e0,rfl,w0⟩:=DataW.trod_int Try.underlying3 hy0;obtain⟨x1,e1,rfl,w1⟩:=DataW.trod_int Try.underlying3 hy1;simp at e0 e1;subst e0 e1;simp only[Prod.mk.injEq]at hx;obtain⟨rfl,rfl⟩:=hx;exact⟨x0,x1,rfl,rfl,rfl,w0,w1⟩
theorem shut2{H:Type}{enc:TypeId×Value->H}(W:World)(base:Nat)(sp:Nat->Bool)(held:Bool){x0 x1:Int}(w0:(Lit.int .i64 x0).wf=true)(w1:(Lit.int .i64 x1).wf=true):
  DataW.Trod enc Try.prog W base sp held 42 (.agg #[.int .i64 x0,.int .i64 x1]) (.agg [.lit (.int .i64 x0),.lit (.int .i64 x1)]) []:=
 ⟨2,by simp[DataW.trod,Value.cells,Try.underlying42,Try.underlying3,cellsI,cellsA,w0,w1,List.range,List.range.loop]⟩
theorem lifted(os:Os)(started:os.Started)(H:Type)(enc:TypeId×Value->H):
  ReturnsInHanded {} Try.checked os 4 .any (Rows.lrukNewsSpec.pre6 enc Try.prog Try.f4 Rows.lrukNewsRow.domain false) (Rows.lrukNewsSpec.post enc Try.prog Try.f4 false true false false):=by
 refine returnsInHanded_of_change (C:=Try.checked) own started (by kernel_rfl) Try.func4
  (ChangeSpec.witness6 (enc:=enc) (C:=Try.checked) false ⟨#[],#[.int .i64 0,.int .i64 0,.agg #[.int .i64 0,.int .i64 0]],[]⟩ 8 (by kernel_rfl) (by kernel_rfl) (by kernel_rfl) (by kernel_rfl)) ?_
 intro W base args ds gs before hval0 hW hcnd _;have hval:∀(j:Nat) t v,Try.f4.params[j]?=some t->args[j]?=some v->Value.okWide Try.prog W .any base t v:=hval0;have hW':=hW;obtain⟨p,q,hA0,hV,rfl,hfz,hnd⟩:=hW;have hA:DataW.TrodAll enc Try.prog W 0 (fun _=>true) true Try.f4.params.toList args.toList ds p:=hA0;rw[Try.params4]at hA hval;obtain⟨v0,vs0,d0,ds0,p0,q0,hargs,rfl,rfl,h0,r0⟩:=trodAll_cons hA;obtain⟨v1,vs1,d1,ds1,p1,q1,rfl,rfl,rfl,h1,r1⟩:=trodAll_cons r0;obtain⟨v2,vs2,d2,ds2,p2,q2,rfl,rfl,rfl,h2,r2⟩:=trodAll_cons r1;obtain⟨rfl,rfl,rfl⟩:=trodAll_nil r2;obtain rfl:args=#[v0,v1,v2]:=by cases args;simp_all
 obtain⟨rfl,rfl⟩:=trodVars_none hV;obtain⟨a0,rfl,rfl,rfl,w0⟩:=open_int Try.underlying3 (hval 0 3 v0 rfl rfl) h0;obtain⟨a1,rfl,rfl,rfl,w1⟩:=open_int Try.underlying3 (hval 1 3 v1 rfl rfl) h1;obtain⟨a2,a3,rfl,rfl,rfl,w2,w3⟩:=open2 (hval 2 42 v2 rfl rfl) h2;clear hA0 hval0;simp only[List.append_nil]at hW';refine(walk a0 a1 a2 a3 W).mono fun e W' ⟨he,hf⟩=>?_
 subst he;exact⟨_,rfl,_,_,_,[],[],[],hW',trodAll_cons_mk (shut_bool Try.underlying4 _) trodAll_mk0,trodAll_cons_mk (shut_int Try.underlying3 w0) (trodAll_cons_mk (shut_int Try.underlying3 w1) (trodAll_cons_mk (shut2 W' _ _ _ w2 w3) trodAll_mk0)),rfl,hf.below.frame _,fun h=>by cases h⟩
theorem proved:Rows.LrukNewsSaid:=
 OpenClaim.holds_of_wide 4 Try.f4 rfl rfl rfl rfl rfl rfl rfl ⟨rfl,rfl,rfl,rfl,rfl⟩ rfl rfl rfl rfl rfl (by kernel_rfl) Try.func4 (by kernel_rfl)
  (of_decide_eq_true (by kernel_rfl)) (by unfold Func.isWrapper;first|(rw[if_pos (by decide+kernel)];kernel_rfl)|(rw[if_neg (by decide+kernel)];exact⟨rfl,rfl⟩))
  (fun os started H enc _=>lifted os started H enc)
#print axioms proved
end lrukNews
end
end Go.Proofs.Ytcccbdnojlmgaaa
