/- Part 43. -/
import Derived.Test.YtcccbdnojlmgaaaK32
namespace Go.Proofs.Ytcccbdnojlmgaaa
set_option linter.all false
set_option maxHeartbeats 16000000
set_option maxRecDepth 100000
section
open Go.RowKit
structure RefSysK{σ:Type}(P:Pol σ)(PR:PRel σ)(pb n:Nat)(co:Nat->σ->List Nat->Prop):Prop where
 pf:PFr PR
 mono:∀{s:σ} {fr:List Nat} {k:Nat},co k s fr->co (k+1) s fr
 cN:∀{w:World} {s:σ} {F D:Nat->Prop},PR w s F D->w.cell? ⟨pb,0,none⟩=some (.int .i64 n)
 miss:∀{w:World} {s:σ} {F D:Nat->Prop} {fr:List Nat} {k:Nat} {id:Nat},PR w s F D->co k s fr->¬id∈fr->1<=id->id<4294967296->
  co k (P.miss s id) fr∧Calls Try.prog 20 #[.pointer (some ⟨pb,0,none⟩),.int .u32 id] w fun e w'=>e=.returned (.tuple #[])∧Left PR w (P.miss s id) F D w'
 access:∀{w:World} {s:σ} {F D:Nat->Prop} {fr:List Nat} {k:Nat} {a id:Nat},PR w s F D->co k s fr->a<n->(fr[a]?=some id∨fr[a]?=some 0∧¬id∈fr)->1<=id->id<4294967296->k<1000->
  co (k+1) (P.access s a id) (fr.set a id)∧Calls Try.prog 23 #[.pointer (some ⟨pb,0,none⟩),.int .i64 a,.int .u32 id] w fun e w'=>e=.returned (.tuple #[])∧Left PR w (P.access s a id) F D w'
 set:∀{w:World} {s:σ} {F D:Nat->Prop} {fr:List Nat} {k:Nat} {a x:Nat} (v:Bool),PR w s F D->co k s fr->a<n->fr[a]?=some x->1<=x->
  co k (P.set s a v) fr∧Calls Try.prog 24 #[.pointer (some ⟨pb,0,none⟩),.int .i64 a,.bool v] w fun e w'=>e=.returned (.tuple #[])∧Left PR w (P.set s a v) F D w'
 victimNo:∀{w:World} {s:σ} {F D:Nat->Prop} {fr:List Nat} {k:Nat} {id:Nat},PR w s F D->co k s fr->¬id∈fr->1<=id->id<4294967296->P.victim s id=none->
  Calls Try.prog 22 #[.pointer (some ⟨pb,0,none⟩),.int .u32 id] w fun e w'=>e=.returned (.int .i64 (-1))∧Left PR w s F D w'
 victimYes:∀{w:World} {s:σ} {F D:Nat->Prop} {fr:List Nat} {k:Nat} {id a:Nat},PR w s F D->co k s fr->¬id∈fr->1<=id->id<4294967296->P.victim s id=some a->
  a<n∧co k (P.gone s id) (fr.set a 0)∧Calls Try.prog 22 #[.pointer (some ⟨pb,0,none⟩),.int .u32 id] w fun e w'=>e=.returned (.int .i64 a)∧Left PR w (P.gone s id) F D w'
 remove:∀{w:World} {s:σ} {F D:Nat->Prop} {fr:List Nat} {k:Nat} {a x:Nat},PR w s F D->co k s fr->a<n->fr[a]?=some x->1<=x->
  co k (P.remove s a) (fr.set a 0)∧Calls Try.prog 25 #[.pointer (some ⟨pb,0,none⟩),.int .i64 a] w fun e w'=>e=.returned (.tuple #[])∧Left PR w (P.remove s a) F D w'
 seen:∀{w:World} {s:σ} {F D:Nat->Prop} {c:Cl},PR w s F D->c.size=0->c.ghosts=[]->
  Calls Try.prog 21 #[.pointer (some ⟨pb,0,none⟩),.agg (clCells c (.slice none 0 0)).toArray] w fun e w'=>∃gv,e=.returned (.agg (clCells (P.see s c) gv).toArray)∧SlK .u32 w' gv (P.ghosts s)∧(∀b,gv.ownBlock=some b->(D b∧¬F b)∨w.heap.size<=b)∧Fr NoF w w'
def RunRelK{σ:Type}(P:Pol σ)(PR:PRel σ)(co:Nat->σ->List Nat->Prop)(w0:World)(F0:Nat->Prop)(n fb hb:Nat)(s0:σ)(fr0:List Nat)(ops:List (Nat×Nat))(out i:Value)(wr:World):Prop:=
 ∃(k:Nat) (hd:Nat->Bool),k<=ops.length∧i=.int .i64 k∧St PR w0 F0 n fb hb wr (P.run s0 fr0 (ops.take k)).1 (P.run s0 fr0 (ops.take k)).2.1 hd (P.run s0 fr0 (ops.take k)).2.2 out∧co k (P.run s0 fr0 (ops.take k)).1 (P.run s0 fr0 (ops.take k)).2.1
theorem RunRelK_step{σ:Type}{P:Pol σ}{PR:PRel σ}{co:Nat->σ->List Nat->Prop}{w0:World}{F0:Nat->Prop}{n fb hb:Nat}{s0:σ}{fr0:List Nat}{ops:List (Nat×Nat)}{k q id:Nat}{s1 s':σ}{fr1 fr':List Nat}{cs1 cs' new:List Cl}{hd:Nat->Bool}{out:Value}{wr:World}
  (hX:P.run s0 fr0 (ops.take (k+1))=((P.step s1 fr1 q id).1,(P.step s1 fr1 q id).2.1,cs1++(P.step s1 fr1 q id).2.2))(hS:P.step s1 fr1 q id=(s',fr',new))(hk:k<ops.length)
  (hst:St PR w0 F0 n fb hb wr s' fr' hd cs' out)(hcs:cs'=cs1++new)(hco:co (k+1) s' fr'):RunRelK P PR co w0 F0 n fb hb s0 fr0 ops out (.int .i64 ((k:Int)+1)) wr:=by
 rw[hS]at hX;subst hcs;exact⟨k+1,hd,hk,rfl,by rw[hX];exact hst,by rw[hX];exact hco⟩
theorem Run_walkK{σ:Type}{P:Pol σ}{PR:PRel σ}{pb n:Nat}{co:Nat->σ->List Nat->Prop}(R:RefSysK P PR pb n co){w:World}{s:σ}{F D:Nat->Prop}{v:Value}{ops:List (Nat×Nat)}
  (h:PR w s F D)(hco:co 0 s (List.replicate n 0))(hn:n<1000)(hv:ArgP w v ops)(hvF:∀b,v.ownBlock=some b->¬D b)(hl:ops.length<1000)(hops:∀o∈ops,o.1<4∧1<=o.2∧o.2<4294967296):
  Calls Try.prog 7 #[.pointer (some ⟨pb,0,none⟩),v] w fun e w'=>∃out,e=.returned out∧∃fb hb fr hd,St PR w D n fb hb w' (P.run s (List.replicate n 0) ops).1 fr hd (P.run s (List.replicate n 0) ops).2.2 out:=by
 obtain⟨i0,hi0,hz0,hz1,hz2⟩:=info_parts' (P:=Try.prog) (e:=35) (z:=.int .u32 0) (s:=1) (b:=4) (by kernel_rfl);obtain⟨i1,hi1,hy0,hy1,hy2⟩:=info_parts' (P:=Try.prog) (e:=4) (z:=.bool false) (s:=1) (b:=1) (by kernel_rfl)
 have mk1:∀w:World,(Instr.makeSlice 36 (.int .i64 (n:Int)) (.int .i64 (n:Int))).run Try.prog w=
   .ok (.slice (some ⟨w.heap.size,0,none⟩) n n) (w.alloc (.cells (madeCells #[.int .u32 0] n) 35)):=by
  intro w;have:=run_make (P:=Try.prog) w 36 35 i0 _ Try.underlying36 hi0 hz0 .i64 .i64 (n:Int) (n:Int) (by omega) (Int.le_refl _) (by rw[hz2];omega) (by omega);rw[show((n:Int)).toNat=n from by omega,hz1,Nat.mul_one]at this;exact this
 have mk2:∀w:World,(Instr.makeSlice 60 (.int .i64 (n:Int)) (.int .i64 (n:Int))).run Try.prog w=
   .ok (.slice (some ⟨w.heap.size,0,none⟩) n n) (w.alloc (.cells (madeCells #[.bool false] n) 4)):=by
  intro w;have:=run_make (P:=Try.prog) w 60 4 i1 _ Try.underlying60 hi1 hy0 .i64 .i64 (n:Int) (n:Int) (by omega) (Int.le_refl _) (by rw[hy2];omega) (by omega);rw[show((n:Int)).toNat=n from by omega,hy1,Nat.mul_one]at this;exact this
 obtain⟨av,cv,rfl,q1,q2⟩:=hv.shape;unfold maxLen at q2;have cN:=R.cN h;have hpb:pb<w.heap.size:=World.block_lt_of_cell? (w:=w) (a:=⟨pb,0,none⟩) cN;have HV:=Lib.hid hv;have HH:=Lib.hid h;have HCO:=Lib.hid hco;have HVF:=Lib.hid hvF;have HOPS:=Lib.hid hops;have HR:=Lib.hid R;clear hi0 hz0 hz1 hz2 hi1 hy0 hy1 hy2 hv h hco hvF hops R;go_enter Try.func7,Try.ntmps7;go_wp2;have f01:Fr NoF w ((w.alloc (.cells (madeCells #[.int .u32 0] n) 35)).alloc (.cells (madeCells #[.bool false] n) 4)):=((Fr.refl NoF w).alloc _).alloc _
 have hst0:St PR w D n w.heap.size (w.heap.size+1) ((w.alloc (.cells (madeCells #[.int .u32 0] n) 35)).alloc (.cells (madeCells #[.bool false] n) 4)) s (List.replicate n 0) (fun _=>false) [] (.slice none 0 0):=by
  have hlt:=HR.out.pf.lt HH.out;refine⟨F,D,[],HR.out.pf.fr HH.out f01 (fun _ _ q=>q),?_,?_,by simp,World.ownsRow_nil _ _ _ _,rfl,fun i c g h1=>by simp at h1,fun q=>by have:=hlt _ q;omega,fun q=>by have:=hlt _ q;omega,by omega,fun b hb=>(by cases hb),fun i hi=>.inl hi,Nat.le_refl _,by omega,f01.none⟩
  .refine(Blk.new _ _ _ n _ _ rfl (by simp[size_madeCells]) (fun i hi=>?_)).alloc _
   rw[made_at hi,show(#[Value.int .u32 0]:Array Value).size=1 from rfl,Nat.mod_one];simp[uF,hi]
  .refine Blk.new _ _ _ n _ _ (by simp) (by simp[size_madeCells]) (fun i hi=>?_)
   rw[made_at hi,show(#[Value.bool false]:Array Value).size=1 from rfl,Nat.mod_one];rfl
 have HST0:=Lib.hid hst0;clear f01 hst0 mk1 mk2 cN;generalize(w.alloc (.cells (madeCells #[.int .u32 0] n) 35)).alloc (.cells (madeCells #[.bool false] n) 4)=w1 at*;generalize w.heap.size+1=hb at*;obtain⟨fb,hfb⟩:∃b,b=w.heap.size:=⟨_,rfl⟩;rw[<-hfb];rw[<-hfb]at HST0;have HFB:=Lib.hid hfb;clear hfb
 go_loopw [5,8] (RunRelK P PR co w D n fb hb s (List.replicate n 0) ops) (fun _ i _=>ops.length-(intOf i).toNat)
 case atStart=>exact⟨0,_,Nat.zero_le _,rfl,by simpa[Pol.run]using HST0.out,by simpa[Pol.run]using HCO.out⟩
 case round=>
  obtain⟨k,hd,hk,rfl,hst,hco⟩:=hrel;clear HST0;by_cases hlt:k<ops.length
  .have HRN:=Lib.hid (P.run_snoc s (List.replicate n 0) (ops.take k) ops[k])
   have HTK:=Lib.hid (List.take_succ_eq_append_getElem hlt);have hcl:=P.run_len s (List.replicate n 0) (ops.take k);rw[List.length_take]at hcl;obtain⟨hq,h1,h2⟩:=HOPS.out ops[k] (List.getElem_mem hlt);obtain⟨bv,off,cv',ev',_,_,hbv,hcell⟩:=SlC.at HV.out hlt (by omega);simp only[Value.slice.injEq]at ev';obtain⟨rfl,_,rfl⟩:=ev';obtain⟨g1,g2⟩:=ops_get (List.getElem?_eq_getElem hlt);have cq:=hcell _ _ g1;have cid:=hcell _ _ g2
   have HX:Hid (P.run s (List.replicate n 0) (ops.take (k+1))=((P.step (P.run s (List.replicate n 0) (ops.take k)).1 (P.run s (List.replicate n 0) (ops.take k)).2.1 ops[k].1 ops[k].2).1,(P.step (P.run s (List.replicate n 0) (ops.take k)).1 (P.run s (List.replicate n 0) (ops.take k)).2.1 ops[k].1 ops[k].2).2.1,(P.run s (List.replicate n 0) (ops.take k)).2.2++(P.step (P.run s (List.replicate n 0) (ops.take k)).1 (P.run s (List.replicate n 0) (ops.take k)).2.1 ops[k].1 ops[k].2).2.2)):=by
    unfold Hid;rw[HTK.out];exact HRN.out
   clear HRN HTK g1 g2 hcell;generalize P.run s (List.replicate n 0) (ops.take k)=x at*;obtain⟨s1,fr1,cs1⟩:=x;simp only at hst hco hcl HX;generalize ops[k]=o at*;obtain⟨q,id⟩:=o;simp only at hq h1 h2 cq cid HX;have hvF:=HVF.out bv rfl;have hff:Fr D w wr:=by obtain⟨_,_,_,h⟩:=hst;exact h.ff
   rw[<-hff.cell (p:=⟨bv,off+k*2,none⟩) hbv hvF]at cq;rw[<-hff.cell (p:=⟨bv,off+(k*2+1),none⟩) hbv hvF]at cid;have cid':wr.cell? ⟨bv,off+k*2+1,none⟩=some (.int .u32 id):=cid;have cN:wr.cell? ⟨pb,0,none⟩=some (.int .i64 n):=by obtain⟨_,_,_,h⟩:=hst;exact HR.out.cN h.pr
   have HS0:=Lib.hid hst;have HC0:=Lib.hid hco;have HK:Hid (k<1000):=by unfold Hid;omega
   have hfrn:fr1.length=n:=by obtain⟨_,_,_,h⟩:=hst;exact h.frn
   have HFN:=Lib.hid hfrn;have HCF:=Lib.hid (HS0.out.cells).1;have HLEN:Hid (cs1.length<900000):=by unfold Hid;omega
   have H2:=Lib.hid h2;clear hst hco hcl hvF hff cid hfrn h2;go_wp2
   go_hide hQ
   go_loop [10,11,12] (fun a e i=>∃j:Nat,j<=n∧i=.int .i64 ((j:Int)-1)∧a=.int .i64 (fromL fr1 id j)∧e=.int .i64 (fromL fr1 0 j)) (fun _ _ i=>(intOf i+1).toNat)
   case atStart=>
    have h0:=fromL_end fr1 id;have h1:=fromL_end fr1 0;rw[HFN.out]at h0 h1;exact⟨n,Nat.le_refl _,rfl,by rw[h0],by rw[h1]⟩
   case round=>
    obtain⟨j,hj,rfl,rfl,rfl⟩:=hrel
    cases j with
    |succ j=>
     rw[show((j+1:Nat):Int)-1=(j:Int)from by omega];have hjl:j<fr1.length:=by rw[HFN.out];omega
     have hf1:=fromL_step fr1 id j hjl;have hf2:=fromL_step fr1 0 j hjl;have ce:=HCF.out j (by omega);rw[show fr1.getD j 0=fr1[j]from by simp[hjl]]at ce;generalize fr1[j]=y at*;generalize fromL fr1 id (j+1)=z1 at*;generalize fromL fr1 0 (j+1)=z2 at*;clear hjl;by_cases e1:y=id
     .rw[if_pos e1]at hf1
      rw[if_neg (by omega)]at hf2;have b1:((y:Int)==(id:Int))=true:=by simp;omega
      have b2:((y:Int)==0)=false:=by simp;omega
      have HF1:=Lib.hid hf1;have HF2:=Lib.hid hf2;clear hf1 hf2 e1;go_wp2
      go_round
      case rel=>exact⟨j,by omega,rfl,by rw[HF1.out],by rw[HF2.out]⟩
      case measure=>first|(simp[intOf];done)|(simp[intOf];omega)
     .rw[if_neg e1]at hf1
      have b1:((y:Int)==(id:Int))=false:=by simp;omega
      by_cases e2:y=0
      .rw[if_pos e2]at hf2
       have b2:((y:Int)==0)=true:=by simp;omega
       have HF1:=Lib.hid hf1;have HF2:=Lib.hid hf2;clear hf1 hf2 e1 e2;go_wp2
       go_round
       case rel=>exact⟨j,by omega,rfl,by rw[HF1.out],by rw[HF2.out]⟩
       case measure=>first|(simp[intOf];done)|(simp[intOf];omega)
      .rw[if_neg e2]at hf2
       have b2:((y:Int)==0)=false:=by simp;omega
       have HF1:=Lib.hid hf1;have HF2:=Lib.hid hf2;clear hf1 hf2 e1 e2;go_wp2
       go_round
       case rel=>exact⟨j,by omega,rfl,by rw[HF1.out],by rw[HF2.out]⟩
       case measure=>first|(simp[intOf];done)|(simp[intOf];omega)
    |zero=>
     rename wr=wr=>hww
     clear hww;rw[show((0:Nat):Int)-1= -1 from rfl];have ez1:=fromL_zero fr1 id;have ez2:=fromL_zero fr1 0;generalize fromL fr1 id 0=z1 at*;generalize fromL fr1 0 0=z2 at*;clear HCF;obtain rfl|rfl|rfl|rfl:q=0∨q=1∨q=2∨q=3:=by omega
     .replace cq:wr.cell? ⟨bv,off+k*2,none⟩=some (.int .i64 0):=cq
      cases e:atL fr1 id with
      |some a=>
       rw[e]at ez1
       replace ez1:z1=(a:Int):=ez1
       subst ez1;obtain⟨ha,hfa⟩:=atL_some e;have ha':a<n:=by have:=HFN.out;omega
       have HFA:=Lib.hid hfa;clear ez2;have HSTEP:Hid (P.step s1 fr1 0 id=(P.access s1 a id,fr1,[P.see (P.access s1 a id) (clAcc a id)])):=by simp[Hid,Pol.step,e]
       clear e hfa ha
       have HCO1:Hid (co (k+1) (P.access s1 a id) fr1):=by
        obtain⟨_,_,_,hr⟩:=HS0.out;have h:=(HR.out.access hr.pr HC0.out ha' (.inl HFA.out) h1 H2.out HK.out).1;rw[set_same HFA.out]at h;exact h
       have HC1:Hid (Calls Try.prog 23 #[.pointer (some ⟨pb,0,none⟩),.int .i64 a,.int .u32 id] (wr) fun e w'=>e=.returned (.tuple #[])∧St PR w D n fb hb w' (P.access s1 a id) (fr1) (hd) (cs1) u5):=HS0.out.calls HR.out.pf (fun F' D' hp=>(HR.out.access hp HC0.out ha' (.inl HFA.out) h1 H2.out HK.out).2);go_wp2;subst hQ
       go_wp2_with fail
       refine HC1.out.mono ?_;clear HC1;rintro e w1⟨rfl,hst1⟩;have HS1:=Lib.hid hst1;clear hst1;have HC2:Hid (Calls Try.prog 21 #[.pointer (some ⟨pb,0,none⟩),.agg #[.int .i64 1,.int .i64 a,.int .u32 id,.bool false,.int .i64 0,.int .i64 0,.slice none 0 0]] (w1) fun e w'=>∃gv,e=.returned (.agg #[.int .i64 1,.int .i64 a,.int .u32 id,.bool false,.int .i64 0,.int .i64 (P.size (P.access s1 a id):Nat),gv])∧StG PR w D n fb hb w' (P.access s1 a id) (fr1) (hd) (cs1) u5 gv (P.see (P.access s1 a id) (clAcc a id)).ghosts):=HS1.out.seen HR.out.pf (fun F' D' hp=>HR.out.seen (c:=clAcc a id) hp rfl rfl)
       go_wp2_with fail
       refine HC2.out.mono ?_;clear HC2;rintro e w2⟨gv2,rfl,hsg2⟩;have HL2:Hid ((cs1).length<1000000):=by have:=HLEN.out;unfold Hid;first|omega|(simp;omega)
       have HG2:=Lib.hid hsg2;clear hsg2
       go_wp2_with(at_builtin;go_must(refine HG2.out.append HR.out.pf HL2.out rfl _ _ rfl (by rfl) rfl (by rfl) rfl ?_);intro o2 x2 hs2;have HS2:=Lib.hid hs2;clear hs2)
       go_wp2
       go_roundw
       case rel=>exact RunRelK_step (new:=[P.see (P.access s1 a id) (clAcc a id)]) HX.out HSTEP.out hlt HS2.out (by simp) HCO1.out
       case measure=>first|(simp[intOf];done)|(simp[intOf];omega)
      |none=>
       rw[e]at ez1
       replace ez1:z1= -1:=ez1
       subst ez1;have HNI:=Lib.hid (atL_none e)
       cases e0:atL fr1 0 with
       |some a=>
        rw[e0]at ez2
        replace ez2:z2=(a:Int):=ez2
        subst ez2;obtain⟨ha,hfa⟩:=atL_some e0;have ha':a<n:=by have:=HFN.out;omega
        have HFA:=Lib.hid hfa;have HSTEP:Hid (P.step s1 fr1 0 id=P.come (P.miss s1 id) fr1 a id [P.see (P.miss s1 id) (clMiss id)]):=by simp[Hid,Pol.step,e,e0]
        clear e e0 hfa ha
        have HCO1:Hid (co k (P.miss s1 id) fr1):=by
         obtain⟨_,_,_,hr⟩:=HS0.out;have h:=(HR.out.miss hr.pr HC0.out HNI.out h1 H2.out).1;exact h
        have HC1:Hid (Calls Try.prog 20 #[.pointer (some ⟨pb,0,none⟩),.int .u32 id] (wr) fun e w'=>e=.returned (.tuple #[])∧St PR w D n fb hb w' (P.miss s1 id) (fr1) (hd) (cs1) u5):=HS0.out.calls HR.out.pf (fun F' D' hp=>(HR.out.miss hp HC0.out HNI.out h1 H2.out).2);go_wp2;subst hQ
        go_wp2_with fail
        refine HC1.out.mono ?_;clear HC1;rintro e w1⟨rfl,hst1⟩;have HS1:=Lib.hid hst1;clear hst1;have HC2:Hid (Calls Try.prog 21 #[.pointer (some ⟨pb,0,none⟩),.agg #[.int .i64 0,.int .i64 0,.int .u32 id,.bool false,.int .i64 0,.int .i64 0,.slice none 0 0]] (w1) fun e w'=>∃gv,e=.returned (.agg #[.int .i64 0,.int .i64 0,.int .u32 id,.bool false,.int .i64 0,.int .i64 (P.size (P.miss s1 id):Nat),gv])∧StG PR w D n fb hb w' (P.miss s1 id) (fr1) (hd) (cs1) u5 gv (P.see (P.miss s1 id) (clMiss id)).ghosts):=HS1.out.seen HR.out.pf (fun F' D' hp=>HR.out.seen (c:=clMiss id) hp rfl rfl)
        go_wp2_with fail
        refine HC2.out.mono ?_;clear HC2;rintro e w2⟨gv2,rfl,hsg2⟩;have HL2:Hid ((cs1).length<1000000):=by have:=HLEN.out;unfold Hid;first|omega|(simp;omega)
        have HG2:=Lib.hid hsg2;clear hsg2
        go_wp2_with(at_builtin;go_must(refine HG2.out.append HR.out.pf HL2.out rfl _ _ rfl (by rfl) rfl (by rfl) rfl ?_);intro o2 x2 hs2;have HS2:=Lib.hid hs2;clear hs2;obtain⟨cf101,ff101,fh101,lf101,lh101,ch101,_,dfh101⟩:=HS2.out.cells;have cf101':=cf101 a ha';have ch101':=ch101 a ha';have dhf101:¬hb=fb:=fun e=>dfh101 e.symm;clear cf101 ch101;generalize fr1.getD a 0=y101 at cf101';generalize hd a=t101 at ch101')
        have HS401:=Lib.hid ((HS2.out.setF HR.out.pf ha' (id:=id)).setH HR.out.pf a false)
        have HCO3:Hid (co (k+1) (P.access (P.miss s1 id) a id) (fr1.set a id)):=by
         obtain⟨_,_,_,hr⟩:=HS401.out;have h:=(HR.out.access hr.pr HCO1.out ha' (.inr ⟨HFA.out,HNI.out⟩) h1 H2.out HK.out).1
         first|exact h|(rw[List.set_set]at h;exact h)
        have HC3:Hid (Calls Try.prog 23 #[.pointer (some ⟨pb,0,none⟩),.int .i64 a,.int .u32 id] (((x2).setCell ⟨fb,a,none⟩ (.int .u32 id)).setCell ⟨hb,a,none⟩ (.bool false)) fun e w'=>e=.returned (.tuple #[])∧St PR w D n fb hb w' (P.access (P.miss s1 id) a id) ((fr1).set a id) (upd (hd) a false) (cs1++[P.see (P.miss s1 id) (clMiss id)]) o2):=HS401.out.calls HR.out.pf (fun F' D' hp=>(HR.out.access hp HCO1.out ha' (.inr ⟨HFA.out,HNI.out⟩) h1 H2.out HK.out).2)
        go_wp2_with fail
        refine HC3.out.mono ?_;clear HC3;rintro e w3⟨rfl,hst3⟩;have HS3:=Lib.hid hst3;clear hst3;clear cf101' ff101 fh101 lf101 lh101 ch101' dfh101 dhf101;have HC4:Hid (Calls Try.prog 21 #[.pointer (some ⟨pb,0,none⟩),.agg #[.int .i64 1,.int .i64 a,.int .u32 id,.bool false,.int .i64 0,.int .i64 0,.slice none 0 0]] (w3) fun e w'=>∃gv,e=.returned (.agg #[.int .i64 1,.int .i64 a,.int .u32 id,.bool false,.int .i64 0,.int .i64 (P.size (P.access (P.miss s1 id) a id):Nat),gv])∧StG PR w D n fb hb w' (P.access (P.miss s1 id) a id) ((fr1).set a id) (upd (hd) a false) (cs1++[P.see (P.miss s1 id) (clMiss id)]) o2 gv (P.see (P.access (P.miss s1 id) a id) (clAcc a id)).ghosts):=HS3.out.seen HR.out.pf (fun F' D' hp=>HR.out.seen (c:=clAcc a id) hp rfl rfl)
        go_wp2_with fail
        refine HC4.out.mono ?_;clear HC4;rintro e w4⟨gv4,rfl,hsg4⟩;have HL4:Hid ((cs1++[P.see (P.miss s1 id) (clMiss id)]).length<1000000):=by have:=HLEN.out;unfold Hid;first|omega|(simp;omega)
        have HG4:=Lib.hid hsg4;clear hsg4
        go_wp2_with(at_builtin;go_must(refine HG4.out.append HR.out.pf HL4.out rfl _ _ rfl (by rfl) rfl (by rfl) rfl ?_);intro o4 x4 hs4;have HS4:=Lib.hid hs4;clear hs4)
        have HCO5:Hid (co (k+1) (P.set (P.access (P.miss s1 id) a id) a true) (fr1.set a id)):=by
         obtain⟨_,_,_,hr⟩:=HS4.out;have h:=(HR.out.set true hr.pr HCO3.out ha' (x:=id) (by rw[List.getElem?_set,if_pos rfl,if_pos (by have:=HFN.out;omega)]) h1).1;exact h
        have HC5:Hid (Calls Try.prog 24 #[.pointer (some ⟨pb,0,none⟩),.int .i64 a,.bool true] (x4) fun e w'=>e=.returned (.tuple #[])∧St PR w D n fb hb w' (P.set (P.access (P.miss s1 id) a id) a true) ((fr1).set a id) (upd (hd) a false) (cs1++[P.see (P.miss s1 id) (clMiss id)]++[P.see (P.access (P.miss s1 id) a id) (clAcc a id)]) o4):=HS4.out.calls HR.out.pf (fun F' D' hp=>(HR.out.set true hp HCO3.out ha' (x:=id) (by rw[List.getElem?_set,if_pos rfl,if_pos (by have:=HFN.out;omega)]) h1).2)
        go_wp2_with fail
        refine HC5.out.mono ?_;clear HC5;rintro e w5⟨rfl,hst5⟩;have HS5:=Lib.hid hst5;clear hst5;have HC6:Hid (Calls Try.prog 21 #[.pointer (some ⟨pb,0,none⟩),.agg #[.int .i64 2,.int .i64 a,.int .u32 0,.bool true,.int .i64 0,.int .i64 0,.slice none 0 0]] (w5) fun e w'=>∃gv,e=.returned (.agg #[.int .i64 2,.int .i64 a,.int .u32 0,.bool true,.int .i64 0,.int .i64 (P.size (P.set (P.access (P.miss s1 id) a id) a true):Nat),gv])∧StG PR w D n fb hb w' (P.set (P.access (P.miss s1 id) a id) a true) ((fr1).set a id) (upd (hd) a false) (cs1++[P.see (P.miss s1 id) (clMiss id)]++[P.see (P.access (P.miss s1 id) a id) (clAcc a id)]) o4 gv (P.see (P.set (P.access (P.miss s1 id) a id) a true) (clSet a true)).ghosts):=HS5.out.seen HR.out.pf (fun F' D' hp=>HR.out.seen (c:=clSet a true) hp rfl rfl)
        go_wp2_with fail
        refine HC6.out.mono ?_;clear HC6;rintro e w6⟨gv6,rfl,hsg6⟩;have HL6:Hid ((cs1++[P.see (P.miss s1 id) (clMiss id)]++[P.see (P.access (P.miss s1 id) a id) (clAcc a id)]).length<1000000):=by have:=HLEN.out;unfold Hid;first|omega|(simp;omega)
        have HG6:=Lib.hid hsg6;clear hsg6
        go_wp2_with(at_builtin;go_must(refine HG6.out.append HR.out.pf HL6.out rfl _ _ rfl (by rfl) rfl (by rfl) rfl ?_);intro o6 x6 hs6;have HS6:=Lib.hid hs6;clear hs6)
        go_wp2
        go_roundw
        case rel=>exact RunRelK_step (new:=[P.see (P.miss s1 id) (clMiss id),P.see (P.access (P.miss s1 id) a id) (clAcc a id),P.see (P.set (P.access (P.miss s1 id) a id) a true) (clSet a true)]) HX.out HSTEP.out hlt HS6.out (by simp) HCO5.out
        case measure=>first|(simp[intOf];done)|(simp[intOf];omega)
       |none=>
        rw[e0]at ez2
        replace ez2:z2= -1:=ez2
        subst ez2
        cases ev:P.victim (P.miss s1 id) id with
        |none=>
         have HSTEP:Hid (P.step s1 fr1 0 id=(P.miss s1 id,fr1,[P.see (P.miss s1 id) (clMiss id),P.see (P.miss s1 id) (clVic id (-1))])):=by simp[Hid,Pol.step,e,e0,ev]
         have HEV:=Lib.hid ev;clear e e0 ev
         have HCO1:Hid (co k (P.miss s1 id) fr1):=by
          obtain⟨_,_,_,hr⟩:=HS0.out;have h:=(HR.out.miss hr.pr HC0.out HNI.out h1 H2.out).1;exact h
         have HC1:Hid (Calls Try.prog 20 #[.pointer (some ⟨pb,0,none⟩),.int .u32 id] (wr) fun e w'=>e=.returned (.tuple #[])∧St PR w D n fb hb w' (P.miss s1 id) (fr1) (hd) (cs1) u5):=HS0.out.calls HR.out.pf (fun F' D' hp=>(HR.out.miss hp HC0.out HNI.out h1 H2.out).2);go_wp2;subst hQ
         go_wp2_with fail
         refine HC1.out.mono ?_;clear HC1;rintro e w1⟨rfl,hst1⟩;have HS1:=Lib.hid hst1;clear hst1;have HC2:Hid (Calls Try.prog 21 #[.pointer (some ⟨pb,0,none⟩),.agg #[.int .i64 0,.int .i64 0,.int .u32 id,.bool false,.int .i64 0,.int .i64 0,.slice none 0 0]] (w1) fun e w'=>∃gv,e=.returned (.agg #[.int .i64 0,.int .i64 0,.int .u32 id,.bool false,.int .i64 0,.int .i64 (P.size (P.miss s1 id):Nat),gv])∧StG PR w D n fb hb w' (P.miss s1 id) (fr1) (hd) (cs1) u5 gv (P.see (P.miss s1 id) (clMiss id)).ghosts):=HS1.out.seen HR.out.pf (fun F' D' hp=>HR.out.seen (c:=clMiss id) hp rfl rfl)
         go_wp2_with fail
         refine HC2.out.mono ?_;clear HC2;rintro e w2⟨gv2,rfl,hsg2⟩;have HL2:Hid ((cs1).length<1000000):=by have:=HLEN.out;unfold Hid;first|omega|(simp;omega)
         have HG2:=Lib.hid hsg2;clear hsg2
         go_wp2_with(at_builtin;go_must(refine HG2.out.append HR.out.pf HL2.out rfl _ _ rfl (by rfl) rfl (by rfl) rfl ?_);intro o2 x2 hs2;have HS2:=Lib.hid hs2;clear hs2)
         have HC3:Hid (Calls Try.prog 22 #[.pointer (some ⟨pb,0,none⟩),.int .u32 id] (x2) fun e w'=>e=.returned (.int .i64 (-1))∧St PR w D n fb hb w' (P.miss s1 id) (fr1) (hd) (cs1++[P.see (P.miss s1 id) (clMiss id)]) o2):=HS2.out.calls HR.out.pf (fun F' D' hp=>(HR.out.victimNo hp HCO1.out HNI.out h1 H2.out HEV.out))
         go_wp2_with fail
         refine HC3.out.mono ?_;clear HC3;rintro e w3⟨rfl,hst3⟩;have HS3:=Lib.hid hst3;clear hst3;have HC4:Hid (Calls Try.prog 21 #[.pointer (some ⟨pb,0,none⟩),.agg #[.int .i64 3,.int .i64 0,.int .u32 id,.bool false,.int .i64 (-1),.int .i64 0,.slice none 0 0]] (w3) fun e w'=>∃gv,e=.returned (.agg #[.int .i64 3,.int .i64 0,.int .u32 id,.bool false,.int .i64 (-1),.int .i64 (P.size (P.miss s1 id):Nat),gv])∧StG PR w D n fb hb w' (P.miss s1 id) (fr1) (hd) (cs1++[P.see (P.miss s1 id) (clMiss id)]) o2 gv (P.see (P.miss s1 id) (clVic id (-1))).ghosts):=HS3.out.seen HR.out.pf (fun F' D' hp=>HR.out.seen (c:=clVic id (-1)) hp rfl rfl)
         go_wp2_with fail
         refine HC4.out.mono ?_;clear HC4;rintro e w4⟨gv4,rfl,hsg4⟩;have HL4:Hid ((cs1++[P.see (P.miss s1 id) (clMiss id)]).length<1000000):=by have:=HLEN.out;unfold Hid;first|omega|(simp;omega)
         have HG4:=Lib.hid hsg4;clear hsg4
         go_wp2_with(at_builtin;go_must(refine HG4.out.append HR.out.pf HL4.out rfl _ _ rfl (by rfl) rfl (by rfl) rfl ?_);intro o4 x4 hs4;have HS4:=Lib.hid hs4;clear hs4)
         go_wp2
         go_roundw
         case rel=>exact RunRelK_step (new:=[P.see (P.miss s1 id) (clMiss id),P.see (P.miss s1 id) (clVic id (-1))]) HX.out HSTEP.out hlt HS4.out (by simp) (HR.out.mono HCO1.out)
         case measure=>first|(simp[intOf];done)|(simp[intOf];omega)
        |some a=>
         have HSTEP:Hid (P.step s1 fr1 0 id=P.come (P.gone (P.miss s1 id) id) fr1 a id [P.see (P.miss s1 id) (clMiss id),P.see (P.gone (P.miss s1 id) id) (clVic id a)]):=by simp[Hid,Pol.step,e,e0,ev]
         have HEV:=Lib.hid ev;clear e e0 ev
         have HCO1:Hid (co k (P.miss s1 id) fr1):=by
          obtain⟨_,_,_,hr⟩:=HS0.out;have h:=(HR.out.miss hr.pr HC0.out HNI.out h1 H2.out).1;exact h
         have HC1:Hid (Calls Try.prog 20 #[.pointer (some ⟨pb,0,none⟩),.int .u32 id] (wr) fun e w'=>e=.returned (.tuple #[])∧St PR w D n fb hb w' (P.miss s1 id) (fr1) (hd) (cs1) u5):=HS0.out.calls HR.out.pf (fun F' D' hp=>(HR.out.miss hp HC0.out HNI.out h1 H2.out).2);go_wp2;subst hQ
         go_wp2_with fail
         refine HC1.out.mono ?_;clear HC1;rintro e w1⟨rfl,hst1⟩;have HS1:=Lib.hid hst1;clear hst1
         have ha':a<n:=by
          obtain⟨_,_,_,hr⟩:=HS1.out;exact(HR.out.victimYes hr.pr HCO1.out HNI.out h1 H2.out HEV.out).1
         have HC2:Hid (Calls Try.prog 21 #[.pointer (some ⟨pb,0,none⟩),.agg #[.int .i64 0,.int .i64 0,.int .u32 id,.bool false,.int .i64 0,.int .i64 0,.slice none 0 0]] (w1) fun e w'=>∃gv,e=.returned (.agg #[.int .i64 0,.int .i64 0,.int .u32 id,.bool false,.int .i64 0,.int .i64 (P.size (P.miss s1 id):Nat),gv])∧StG PR w D n fb hb w' (P.miss s1 id) (fr1) (hd) (cs1) u5 gv (P.see (P.miss s1 id) (clMiss id)).ghosts):=HS1.out.seen HR.out.pf (fun F' D' hp=>HR.out.seen (c:=clMiss id) hp rfl rfl)
         go_wp2_with fail
         refine HC2.out.mono ?_;clear HC2;rintro e w2⟨gv2,rfl,hsg2⟩;have HL2:Hid ((cs1).length<1000000):=by have:=HLEN.out;unfold Hid;first|omega|(simp;omega)
         have HG2:=Lib.hid hsg2;clear hsg2
         go_wp2_with(at_builtin;go_must(refine HG2.out.append HR.out.pf HL2.out rfl _ _ rfl (by rfl) rfl (by rfl) rfl ?_);intro o2 x2 hs2;have HS2:=Lib.hid hs2;clear hs2)
         have HCO3:Hid (co k (P.gone (P.miss s1 id) id) (fr1.set a 0)):=by
          obtain⟨_,_,_,hr⟩:=HS2.out;have h:=(HR.out.victimYes hr.pr HCO1.out HNI.out h1 H2.out HEV.out).2.1;exact h
         have HC3:Hid (Calls Try.prog 22 #[.pointer (some ⟨pb,0,none⟩),.int .u32 id] (x2) fun e w'=>e=.returned (.int .i64 (a:Int))∧St PR w D n fb hb w' (P.gone (P.miss s1 id) id) (fr1) (hd) (cs1++[P.see (P.miss s1 id) (clMiss id)]) o2):=HS2.out.calls HR.out.pf (fun F' D' hp=>(HR.out.victimYes hp HCO1.out HNI.out h1 H2.out HEV.out).2.2)
         go_wp2_with fail
         refine HC3.out.mono ?_;clear HC3;rintro e w3⟨rfl,hst3⟩;have HS3:=Lib.hid hst3;clear hst3;have HC4:Hid (Calls Try.prog 21 #[.pointer (some ⟨pb,0,none⟩),.agg #[.int .i64 3,.int .i64 0,.int .u32 id,.bool false,.int .i64 a,.int .i64 0,.slice none 0 0]] (w3) fun e w'=>∃gv,e=.returned (.agg #[.int .i64 3,.int .i64 0,.int .u32 id,.bool false,.int .i64 a,.int .i64 (P.size (P.gone (P.miss s1 id) id):Nat),gv])∧StG PR w D n fb hb w' (P.gone (P.miss s1 id) id) (fr1) (hd) (cs1++[P.see (P.miss s1 id) (clMiss id)]) o2 gv (P.see (P.gone (P.miss s1 id) id) (clVic id a)).ghosts):=HS3.out.seen HR.out.pf (fun F' D' hp=>HR.out.seen (c:=clVic id a) hp rfl rfl)
         go_wp2_with fail
         refine HC4.out.mono ?_;clear HC4;rintro e w4⟨gv4,rfl,hsg4⟩;have HL4:Hid ((cs1++[P.see (P.miss s1 id) (clMiss id)]).length<1000000):=by have:=HLEN.out;unfold Hid;first|omega|(simp;omega)
         have HG4:=Lib.hid hsg4;clear hsg4
         go_wp2_with(at_builtin;go_must(refine HG4.out.append HR.out.pf HL4.out rfl _ _ rfl (by rfl) rfl (by rfl) rfl ?_);intro o4 x4 hs4;have HS4:=Lib.hid hs4;clear hs4;obtain⟨cf102,ff102,fh102,lf102,lh102,ch102,_,dfh102⟩:=HS4.out.cells;have cf102':=cf102 a ha';have ch102':=ch102 a ha';have dhf102:¬hb=fb:=fun e=>dfh102 e.symm;clear cf102 ch102;generalize fr1.getD a 0=y102 at cf102';generalize hd a=t102 at ch102')
         have HF0:Hid ((fr1.set a 0)[a]?=some 0∧¬id∈fr1.set a 0):=⟨by rw[List.getElem?_set,if_pos rfl,if_pos (by have:=HFN.out;omega)],fun q=>by
          rcases List.mem_or_eq_of_mem_set q with q|q
          .exact HNI.out q
          .omega⟩
         have HS402:=Lib.hid ((HS4.out.setF HR.out.pf ha' (id:=id)).setH HR.out.pf a false)
         have HCO5:Hid (co (k+1) (P.access (P.gone (P.miss s1 id) id) a id) (fr1.set a id)):=by
          obtain⟨_,_,_,hr⟩:=HS402.out;have h:=(HR.out.access hr.pr HCO3.out ha' (.inr HF0.out) h1 H2.out HK.out).1
          first|exact h|(rw[List.set_set]at h;exact h)
         have HC5:Hid (Calls Try.prog 23 #[.pointer (some ⟨pb,0,none⟩),.int .i64 a,.int .u32 id] (((x4).setCell ⟨fb,a,none⟩ (.int .u32 id)).setCell ⟨hb,a,none⟩ (.bool false)) fun e w'=>e=.returned (.tuple #[])∧St PR w D n fb hb w' (P.access (P.gone (P.miss s1 id) id) a id) ((fr1).set a id) (upd (hd) a false) (cs1++[P.see (P.miss s1 id) (clMiss id)]++[P.see (P.gone (P.miss s1 id) id) (clVic id a)]) o4):=HS402.out.calls HR.out.pf (fun F' D' hp=>(HR.out.access hp HCO3.out ha' (.inr HF0.out) h1 H2.out HK.out).2)
         go_wp2_with fail
         refine HC5.out.mono ?_;clear HC5;rintro e w5⟨rfl,hst5⟩;have HS5:=Lib.hid hst5;clear hst5;clear cf102' ff102 fh102 lf102 lh102 ch102' dfh102 dhf102;have HC6:Hid (Calls Try.prog 21 #[.pointer (some ⟨pb,0,none⟩),.agg #[.int .i64 1,.int .i64 a,.int .u32 id,.bool false,.int .i64 0,.int .i64 0,.slice none 0 0]] (w5) fun e w'=>∃gv,e=.returned (.agg #[.int .i64 1,.int .i64 a,.int .u32 id,.bool false,.int .i64 0,.int .i64 (P.size (P.access (P.gone (P.miss s1 id) id) a id):Nat),gv])∧StG PR w D n fb hb w' (P.access (P.gone (P.miss s1 id) id) a id) ((fr1).set a id) (upd (hd) a false) (cs1++[P.see (P.miss s1 id) (clMiss id)]++[P.see (P.gone (P.miss s1 id) id) (clVic id a)]) o4 gv (P.see (P.access (P.gone (P.miss s1 id) id) a id) (clAcc a id)).ghosts):=HS5.out.seen HR.out.pf (fun F' D' hp=>HR.out.seen (c:=clAcc a id) hp rfl rfl)
         go_wp2_with fail
         refine HC6.out.mono ?_;clear HC6;rintro e w6⟨gv6,rfl,hsg6⟩;have HL6:Hid ((cs1++[P.see (P.miss s1 id) (clMiss id)]++[P.see (P.gone (P.miss s1 id) id) (clVic id a)]).length<1000000):=by have:=HLEN.out;unfold Hid;first|omega|(simp;omega)
         have HG6:=Lib.hid hsg6;clear hsg6
         go_wp2_with(at_builtin;go_must(refine HG6.out.append HR.out.pf HL6.out rfl _ _ rfl (by rfl) rfl (by rfl) rfl ?_);intro o6 x6 hs6;have HS6:=Lib.hid hs6;clear hs6)
         have HCO7:Hid (co (k+1) (P.set (P.access (P.gone (P.miss s1 id) id) a id) a true) (fr1.set a id)):=by
          obtain⟨_,_,_,hr⟩:=HS6.out;have h:=(HR.out.set true hr.pr HCO5.out ha' (x:=id) (by rw[List.getElem?_set,if_pos rfl,if_pos (by have:=HFN.out;omega)]) h1).1;exact h
         have HC7:Hid (Calls Try.prog 24 #[.pointer (some ⟨pb,0,none⟩),.int .i64 a,.bool true] (x6) fun e w'=>e=.returned (.tuple #[])∧St PR w D n fb hb w' (P.set (P.access (P.gone (P.miss s1 id) id) a id) a true) ((fr1).set a id) (upd (hd) a false) (cs1++[P.see (P.miss s1 id) (clMiss id)]++[P.see (P.gone (P.miss s1 id) id) (clVic id a)]++[P.see (P.access (P.gone (P.miss s1 id) id) a id) (clAcc a id)]) o6):=HS6.out.calls HR.out.pf (fun F' D' hp=>(HR.out.set true hp HCO5.out ha' (x:=id) (by rw[List.getElem?_set,if_pos rfl,if_pos (by have:=HFN.out;omega)]) h1).2)
         go_wp2_with fail
         refine HC7.out.mono ?_;clear HC7;rintro e w7⟨rfl,hst7⟩;have HS7:=Lib.hid hst7;clear hst7;have HC8:Hid (Calls Try.prog 21 #[.pointer (some ⟨pb,0,none⟩),.agg #[.int .i64 2,.int .i64 a,.int .u32 0,.bool true,.int .i64 0,.int .i64 0,.slice none 0 0]] (w7) fun e w'=>∃gv,e=.returned (.agg #[.int .i64 2,.int .i64 a,.int .u32 0,.bool true,.int .i64 0,.int .i64 (P.size (P.set (P.access (P.gone (P.miss s1 id) id) a id) a true):Nat),gv])∧StG PR w D n fb hb w' (P.set (P.access (P.gone (P.miss s1 id) id) a id) a true) ((fr1).set a id) (upd (hd) a false) (cs1++[P.see (P.miss s1 id) (clMiss id)]++[P.see (P.gone (P.miss s1 id) id) (clVic id a)]++[P.see (P.access (P.gone (P.miss s1 id) id) a id) (clAcc a id)]) o6 gv (P.see (P.set (P.access (P.gone (P.miss s1 id) id) a id) a true) (clSet a true)).ghosts):=HS7.out.seen HR.out.pf (fun F' D' hp=>HR.out.seen (c:=clSet a true) hp rfl rfl)
         go_wp2_with fail
         refine HC8.out.mono ?_;clear HC8;rintro e w8⟨gv8,rfl,hsg8⟩;have HL8:Hid ((cs1++[P.see (P.miss s1 id) (clMiss id)]++[P.see (P.gone (P.miss s1 id) id) (clVic id a)]++[P.see (P.access (P.gone (P.miss s1 id) id) a id) (clAcc a id)]).length<1000000):=by have:=HLEN.out;unfold Hid;first|omega|(simp;omega)
         have HG8:=Lib.hid hsg8;clear hsg8
         go_wp2_with(at_builtin;go_must(refine HG8.out.append HR.out.pf HL8.out rfl _ _ rfl (by rfl) rfl (by rfl) rfl ?_);intro o8 x8 hs8;have HS8:=Lib.hid hs8;clear hs8)
         go_wp2
         go_roundw
         case rel=>exact RunRelK_step (new:=[P.see (P.miss s1 id) (clMiss id),P.see (P.gone (P.miss s1 id) id) (clVic id a),P.see (P.access (P.gone (P.miss s1 id) id) a id) (clAcc a id),P.see (P.set (P.access (P.gone (P.miss s1 id) id) a id) a true) (clSet a true)]) HX.out HSTEP.out hlt HS8.out (by simp) HCO7.out
         case measure=>first|(simp[intOf];done)|(simp[intOf];omega)
     .replace cq:wr.cell? ⟨bv,off+k*2,none⟩=some (.int .i64 1):=cq
      clear ez2
      cases e:atL fr1 id with
      |none=>
       rw[e]at ez1
       replace ez1:z1= -1:=ez1
       subst ez1;have HSTEP:Hid (P.step s1 fr1 1 id=(s1,fr1,[])):=by simp[Hid,Pol.step,e]
       clear e;go_wp2;subst hQ;go_wp2
       go_roundw
       case rel=>exact RunRelK_step (new:=[]) HX.out HSTEP.out hlt HS0.out (by simp) (HR.out.mono HC0.out)
       case measure=>first|(simp[intOf];done)|(simp[intOf];omega)
      |some a=>
       rw[e]at ez1
       replace ez1:z1=(a:Int):=ez1
       subst ez1;obtain⟨ha,hfa⟩:=atL_some e;have ha':a<n:=by have:=HFN.out;omega
       have HFA:=Lib.hid hfa;have HSTEP:Hid (P.step s1 fr1 1 id=(P.set s1 a false,fr1,[P.see (P.set s1 a false) (clSet a false)])):=by simp[Hid,Pol.step,e]
       clear e hfa ha;obtain⟨cf1,ff1,fh1,lf1,lh1,ch1,_,dfh1⟩:=HS0.out.cells;have cf1':=cf1 a ha';have ch1':=ch1 a ha';have dhf1:¬hb=fb:=fun e=>dfh1 e.symm
       clear cf1 ch1;generalize hd a=t1 at ch1';have HS1:=Lib.hid (HS0.out.setH HR.out.pf a true)
       have HCO2:Hid (co k (P.set s1 a false) fr1):=by
        obtain⟨_,_,_,hr⟩:=HS1.out;have h:=(HR.out.set false hr.pr HC0.out ha' HFA.out h1).1;exact h
       have HC2:Hid (Calls Try.prog 24 #[.pointer (some ⟨pb,0,none⟩),.int .i64 a,.bool false] (wr.setCell ⟨hb,a,none⟩ (.bool true)) fun e w'=>e=.returned (.tuple #[])∧St PR w D n fb hb w' (P.set s1 a false) (fr1) (upd hd a true) (cs1) u5):=HS1.out.calls HR.out.pf (fun F' D' hp=>(HR.out.set false hp HC0.out ha' HFA.out h1).2);go_wp2;subst hQ
       go_wp2_with fail
       refine HC2.out.mono ?_;clear HC2;rintro e w2⟨rfl,hst2⟩;have HS2:=Lib.hid hst2;clear hst2;clear cf1' ff1 fh1 lf1 lh1 ch1' dfh1 dhf1;obtain⟨cf3,ff3,fh3,lf3,lh3,ch3,_,dfh3⟩:=HS2.out.cells;have cf3':=cf3 a ha';have ch3':=ch3 a ha';have dhf3:¬hb=fb:=fun e=>dfh3 e.symm
       clear cf3 ch3;rw[upd_same]at ch3';have HC4:Hid (Calls Try.prog 21 #[.pointer (some ⟨pb,0,none⟩),.agg #[.int .i64 2,.int .i64 a,.int .u32 0,.bool false,.int .i64 0,.int .i64 0,.slice none 0 0]] (w2) fun e w'=>∃gv,e=.returned (.agg #[.int .i64 2,.int .i64 a,.int .u32 0,.bool false,.int .i64 0,.int .i64 (P.size (P.set s1 a false):Nat),gv])∧StG PR w D n fb hb w' (P.set s1 a false) (fr1) (upd hd a true) (cs1) u5 gv (P.see (P.set s1 a false) (clSet a false)).ghosts):=HS2.out.seen HR.out.pf (fun F' D' hp=>HR.out.seen (c:=clSet a false) hp rfl rfl)
       go_wp2_with fail
       refine HC4.out.mono ?_;clear HC4;rintro e w4⟨gv4,rfl,hsg4⟩;have HL4:Hid ((cs1).length<1000000):=by have:=HLEN.out;unfold Hid;first|omega|(simp;omega)
       have HG4:=Lib.hid hsg4;clear hsg4
       go_wp2_with(at_builtin;go_must(refine HG4.out.append HR.out.pf HL4.out rfl _ _ rfl (by rfl) rfl (by rfl) rfl ?_);intro o4 x4 hs4;have HS4:=Lib.hid hs4;clear hs4)
       go_wp2
       go_roundw
       case rel=>exact RunRelK_step (new:=[P.see (P.set s1 a false) (clSet a false)]) HX.out HSTEP.out hlt HS4.out (by simp) (HR.out.mono HCO2.out)
       case measure=>first|(simp[intOf];done)|(simp[intOf];omega)
     .replace cq:wr.cell? ⟨bv,off+k*2,none⟩=some (.int .i64 2):=cq
      clear ez2
      cases e:atL fr1 id with
      |none=>
       rw[e]at ez1
       replace ez1:z1= -1:=ez1
       subst ez1;have HSTEP:Hid (P.step s1 fr1 2 id=(s1,fr1,[])):=by simp[Hid,Pol.step,e]
       clear e;go_wp2;subst hQ;go_wp2
       go_roundw
       case rel=>exact RunRelK_step (new:=[]) HX.out HSTEP.out hlt HS0.out (by simp) (HR.out.mono HC0.out)
       case measure=>first|(simp[intOf];done)|(simp[intOf];omega)
      |some a=>
       rw[e]at ez1
       replace ez1:z1=(a:Int):=ez1
       subst ez1;obtain⟨ha,hfa⟩:=atL_some e;have ha':a<n:=by have:=HFN.out;omega
       have HFA:=Lib.hid hfa;have HSTEP:Hid (P.step s1 fr1 2 id=(P.set s1 a true,fr1,[P.see (P.set s1 a true) (clSet a true)])):=by simp[Hid,Pol.step,e]
       clear e hfa ha;obtain⟨cf1,ff1,fh1,lf1,lh1,ch1,_,dfh1⟩:=HS0.out.cells;have cf1':=cf1 a ha';have ch1':=ch1 a ha';have dhf1:¬hb=fb:=fun e=>dfh1 e.symm
       clear cf1 ch1;generalize hd a=t1 at ch1';have HS1:=Lib.hid (HS0.out.setH HR.out.pf a false)
       have HCO2:Hid (co k (P.set s1 a true) fr1):=by
        obtain⟨_,_,_,hr⟩:=HS1.out;have h:=(HR.out.set true hr.pr HC0.out ha' HFA.out h1).1;exact h
       have HC2:Hid (Calls Try.prog 24 #[.pointer (some ⟨pb,0,none⟩),.int .i64 a,.bool true] (wr.setCell ⟨hb,a,none⟩ (.bool false)) fun e w'=>e=.returned (.tuple #[])∧St PR w D n fb hb w' (P.set s1 a true) (fr1) (upd hd a false) (cs1) u5):=HS1.out.calls HR.out.pf (fun F' D' hp=>(HR.out.set true hp HC0.out ha' HFA.out h1).2);go_wp2;subst hQ
       go_wp2_with fail
       refine HC2.out.mono ?_;clear HC2;rintro e w2⟨rfl,hst2⟩;have HS2:=Lib.hid hst2;clear hst2;clear cf1' ff1 fh1 lf1 lh1 ch1' dfh1 dhf1;obtain⟨cf3,ff3,fh3,lf3,lh3,ch3,_,dfh3⟩:=HS2.out.cells;have cf3':=cf3 a ha';have ch3':=ch3 a ha';have dhf3:¬hb=fb:=fun e=>dfh3 e.symm
       clear cf3 ch3;rw[upd_same]at ch3';have HC4:Hid (Calls Try.prog 21 #[.pointer (some ⟨pb,0,none⟩),.agg #[.int .i64 2,.int .i64 a,.int .u32 0,.bool true,.int .i64 0,.int .i64 0,.slice none 0 0]] (w2) fun e w'=>∃gv,e=.returned (.agg #[.int .i64 2,.int .i64 a,.int .u32 0,.bool true,.int .i64 0,.int .i64 (P.size (P.set s1 a true):Nat),gv])∧StG PR w D n fb hb w' (P.set s1 a true) (fr1) (upd hd a false) (cs1) u5 gv (P.see (P.set s1 a true) (clSet a true)).ghosts):=HS2.out.seen HR.out.pf (fun F' D' hp=>HR.out.seen (c:=clSet a true) hp rfl rfl)
       go_wp2_with fail
       refine HC4.out.mono ?_;clear HC4;rintro e w4⟨gv4,rfl,hsg4⟩;have HL4:Hid ((cs1).length<1000000):=by have:=HLEN.out;unfold Hid;first|omega|(simp;omega)
       have HG4:=Lib.hid hsg4;clear hsg4
       go_wp2_with(at_builtin;go_must(refine HG4.out.append HR.out.pf HL4.out rfl _ _ rfl (by rfl) rfl (by rfl) rfl ?_);intro o4 x4 hs4;have HS4:=Lib.hid hs4;clear hs4)
       go_wp2
       go_roundw
       case rel=>exact RunRelK_step (new:=[P.see (P.set s1 a true) (clSet a true)]) HX.out HSTEP.out hlt HS4.out (by simp) (HR.out.mono HCO2.out)
       case measure=>first|(simp[intOf];done)|(simp[intOf];omega)
     .replace cq:wr.cell? ⟨bv,off+k*2,none⟩=some (.int .i64 3):=cq
      clear ez2
      cases e:atL fr1 id with
      |none=>
       rw[e]at ez1
       replace ez1:z1= -1:=ez1
       subst ez1;have HSTEP:Hid (P.step s1 fr1 3 id=(s1,fr1,[])):=by simp[Hid,Pol.step,e]
       clear e;go_wp2;subst hQ;go_wp2
       go_roundw
       case rel=>exact RunRelK_step (new:=[]) HX.out HSTEP.out hlt HS0.out (by simp) (HR.out.mono HC0.out)
       case measure=>first|(simp[intOf];done)|(simp[intOf];omega)
      |some a=>
       rw[e]at ez1
       replace ez1:z1=(a:Int):=ez1
       subst ez1;obtain⟨ha,hfa⟩:=atL_some e;have ha':a<n:=by have:=HFN.out;omega
       have HFA:=Lib.hid hfa;have HSTEP:Hid (P.step s1 fr1 3 id=(P.remove s1 a,fr1.set a 0,[P.see (P.remove s1 a) (clRem a)])):=by simp[Hid,Pol.step,e]
       clear e hfa ha;obtain⟨cf201,ff201,fh201,lf201,lh201,ch201,_,dfh201⟩:=HS0.out.cells;have cf201':=cf201 a ha';have ch201':=ch201 a ha';have dhf201:¬hb=fb:=fun e=>dfh201 e.symm
       clear cf201 ch201;generalize fr1.getD a 0=y201 at cf201';generalize hd a=t201 at ch201';have HS501:=Lib.hid ((HS0.out.setF HR.out.pf ha' (id:=0)).setH HR.out.pf a false)
       have HCO2:Hid (co k (P.remove s1 a) (fr1.set a 0)):=by
        obtain⟨_,_,_,hr⟩:=HS501.out;have h:=(HR.out.remove hr.pr HC0.out ha' HFA.out h1).1;exact h
       have HC2:Hid (Calls Try.prog 25 #[.pointer (some ⟨pb,0,none⟩),.int .i64 a] (((wr).setCell ⟨fb,a,none⟩ (.int .u32 0)).setCell ⟨hb,a,none⟩ (.bool false)) fun e w'=>e=.returned (.tuple #[])∧St PR w D n fb hb w' (P.remove s1 a) ((fr1).set a 0) (upd (hd) a false) (cs1) u5):=HS501.out.calls HR.out.pf (fun F' D' hp=>(HR.out.remove hp HC0.out ha' HFA.out h1).2);go_wp2;subst hQ
       go_wp2_with fail
       refine HC2.out.mono ?_;clear HC2;rintro e w2⟨rfl,hst2⟩;have HS2:=Lib.hid hst2;clear hst2;clear cf201' ff201 fh201 lf201 lh201 ch201' dfh201 dhf201;have HC3:Hid (Calls Try.prog 21 #[.pointer (some ⟨pb,0,none⟩),.agg #[.int .i64 4,.int .i64 a,.int .u32 0,.bool false,.int .i64 0,.int .i64 0,.slice none 0 0]] (w2) fun e w'=>∃gv,e=.returned (.agg #[.int .i64 4,.int .i64 a,.int .u32 0,.bool false,.int .i64 0,.int .i64 (P.size (P.remove s1 a):Nat),gv])∧StG PR w D n fb hb w' (P.remove s1 a) ((fr1).set a 0) (upd (hd) a false) (cs1) u5 gv (P.see (P.remove s1 a) (clRem a)).ghosts):=HS2.out.seen HR.out.pf (fun F' D' hp=>HR.out.seen (c:=clRem a) hp rfl rfl)
       go_wp2_with fail
       refine HC3.out.mono ?_;clear HC3;rintro e w3⟨gv3,rfl,hsg3⟩;have HL3:Hid ((cs1).length<1000000):=by have:=HLEN.out;unfold Hid;first|omega|(simp;omega)
       have HG3:=Lib.hid hsg3;clear hsg3
       go_wp2_with(at_builtin;go_must(refine HG3.out.append HR.out.pf HL3.out rfl _ _ rfl (by rfl) rfl (by rfl) rfl ?_);intro o3 x3 hs3;have HS3:=Lib.hid hs3;clear hs3)
       go_wp2
       go_roundw
       case rel=>exact RunRelK_step (new:=[P.see (P.remove s1 a) (clRem a)]) HX.out HSTEP.out hlt HS3.out (by simp) (HR.out.mono HCO2.out)
       case measure=>first|(simp[intOf];done)|(simp[intOf];omega)
  .obtain rfl:k=ops.length:=by omega
   rw[List.take_length]at hst hco;have HS0:=Lib.hid hst;clear hst hco;go_wp2;go_returns;exact⟨u5,rfl,fb,hb,_,_,HS0.out⟩
end
end Go.Proofs.Ytcccbdnojlmgaaa
