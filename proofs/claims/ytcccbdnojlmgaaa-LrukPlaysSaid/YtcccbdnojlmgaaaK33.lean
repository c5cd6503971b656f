/- Part 33. -/
import Derived.Test.YtcccbdnojlmgaaaK32
import Derived.Deep.RegionLaw
namespace Go.Proofs.Ytcccbdnojlmgaaa
set_option linter.all false
set_option maxHeartbeats 16000000
set_option maxRecDepth 100000
section
open Go.RowKit
theorem u64_range'(z:Int):0<=IntKind.u64.wrap z∧IntKind.u64.wrap z<18446744073709551616:=by
 simp only[IntKind.wrap,IntKind.signed,IntKind.bits];simp;omega
theorem w64_small'{z:Int}(h0:0<=z)(h1:z<1000000):wrap64 z=z:=by
 have:=IntKind.wrap_i64 z;unfold wrap64;omega
theorem modk(z:Int){k:Int}(h0:0<k)(h1:k<1000):∃r:Nat,(r:Int)<k∧wrap64 ((IntKind.u64.wrap z).tmod k)=r:=by
 obtain⟨a,b⟩:=u64_range' z;have h2:(IntKind.u64.wrap z).tmod k=(IntKind.u64.wrap z)%k:=Int.tmod_eq_emod_of_nonneg a;have h3:0<=(IntKind.u64.wrap z)%k:=Int.emod_nonneg _ (by omega);have h4:(IntKind.u64.wrap z)%k<k:=Int.emod_lt_of_pos _ h0;refine⟨((IntKind.u64.wrap z)%k).toNat,by omega,?_⟩;rw[h2,w64_small' h3 (by omega)];omega
theorem modk1(z:Int){k:Int}(h0:0<k)(h1:k<1000):∃m:Nat,1<=m∧(m:Int)<=k∧wrap64 (1+wrap64 ((IntKind.u64.wrap z).tmod k))=(m:Int):=by
 obtain⟨r,h2,h3⟩:=modk z h0 h1;exact⟨r+1,by omega,by omega,by rw[h3,w64_small' (by omega) (by omega)];omega⟩
theorem EIo:EI Try.prog 23 65 2 16:=EI.mk' (z:=.agg #[.int .i64 0,.int .u32 0]) Try.underlying23 (by kernel_rfl) rfl (by decide)
def ArgQ(w:World)(v:Value)(zs:List (Int×Int)):Prop:=
 (∃a c,v=.slice a zs.length c∧zs.length<=c∧c<=maxLen)∧(0<zs.length->SlC w 2 v zs.length (zs.flatMap fun z=>[.int .i64 z.1,.int .u32 z.2]))∧∀z∈zs,0<=z.2∧z.2<4294967296
theorem ArgQ.keep{w w':World}{v:Value}{zs:List (Int×Int)}(h:ArgQ w v zs)(f:Fr NoF w w'):ArgQ w' v zs:=⟨h.1,fun q=>(h.2.1 q).fr f (fun _ _ q=>q),h.2.2⟩
theorem argQ_get:∀{zs:List (Int×Int)} {i:Nat} {z:Int×Int},zs[i]?=some z->(zs.flatMap fun z=>[Value.int .i64 z.1,Value.int .u32 z.2])[i*2]?=some (.int .i64 z.1)∧(zs.flatMap fun z=>[Value.int .i64 z.1,Value.int .u32 z.2])[i*2+1]?=some (.int .u32 z.2)
 |a::zs,0,z,h=>by simp at h;subst h;simp
 |a::zs,i+1,z,h=>by
  have:=argQ_get (zs:=zs) (i:=i) (z:=z) (by simpa using h);simp only[List.flatMap_cons,show(i+1)*2=i*2+1+1 from by omega];exact this
 |[],_,_,h=>by simp at h
def kindT(r:Nat):Nat:=if r<6 then 0 else if r<7 then 1 else if r<9 then 2 else 3
theorem kindT_at{r:Nat}(hr:r<10):∀h,([Value.int .i64 0,.int .i64 0,.int .i64 0,.int .i64 0,.int .i64 0,.int .i64 0,.int .i64 1,.int .i64 2,.int .i64 2,.int .i64 3]:List Value)[r]'h=.int .i64 (kindT r:Nat):=by
 match r,hr with
 |0,_=>exact fun _=>rfl
 |1,_=>exact fun _=>rfl
 |2,_=>exact fun _=>rfl
 |3,_=>exact fun _=>rfl
 |4,_=>exact fun _=>rfl
 |5,_=>exact fun _=>rfl
 |6,_=>exact fun _=>rfl
 |7,_=>exact fun _=>rfl
 |8,_=>exact fun _=>rfl
 |9,_=>exact fun _=>rfl
theorem kindT_lt(r:Nat):kindT r<4:=by unfold kindT;repeat(split<;>try omega)
def opsF(l:List (Nat×Nat)):List Value:=l.flatMap fun o=>[.int .i64 o.1,.int .u32 o.2]
def FixRel(w0:World)(m:Nat)(zn:Nat)(out i:Value)(wr:World):Prop:=
 ∃(k:Nat) (l:List (Nat×Nat)),k<=zn∧k<=150∧i=.int .i64 k∧l.length=k∧(∀o∈l,o.1<4∧1<=o.2∧o.2<=m)∧wr.ownsRow w0.heap.size 65 2 out k (opsF l)∧Fr NoF w0 wr
theorem Fix_walk{w:World}{v:Value}{zs:List (Int×Int)}{m:Nat}(h:ArgQ w v zs)(h1:1<=m)(hm:m<1000):
  Calls Try.prog 9 #[v,.int .i64 m] w fun e w'=>∃out,e=.returned out∧∃l:List (Nat×Nat),l.length<=150∧(∀o∈l,o.1<4∧1<=o.2∧o.2<=m)∧ArgP w' out l∧(∀b,out.ownBlock=some b->w.heap.size<=b)∧Fr NoF w w':=by
 obtain⟨av,cv,rfl,q1,q2⟩:=h.1;unfold maxLen at q2;have HV:=Lib.hid h;clear h;go_enter Try.func9,Try.ntmps9;go_wp2
 go_loopw [5,6] (FixRel w m zs.length) (fun _ i _=>zs.length-(intOf i).toNat)
 case atStart=>exact⟨0,[],Nat.zero_le _,Nat.zero_le _,rfl,rfl,fun o ho=>(by cases ho),World.ownsRow_nil _ _ _ _,Fr.refl _ _⟩
 case round=>
  obtain⟨k,l,hk,hk2,rfl,hl,hlo,ho,hf⟩:=hrel;have HO:=Lib.hid ho;have HF:=Lib.hid hf;have HL:=Lib.hid (And.intro hl hlo);clear hl hlo ho hf;by_cases hlt:k<zs.length
  .by_cases h150:k<150
   .obtain⟨b,off,c',ev',_,_,hb,hcell⟩:=SlC.at (HV.out.2.1 (by omega)) hlt (by omega)
    simp only[Value.slice.injEq]at ev';obtain⟨rfl,_,rfl⟩:=ev';obtain⟨g1,g2⟩:=argQ_get (List.getElem?_eq_getElem hlt);have c0:=hcell _ _ g1;have c1:w.cell? ⟨b,off+k*2+1,none⟩=some (.int .u32 zs[k].2):=hcell _ _ g2;have hp:=HV.out.2.2 zs[k] (List.getElem_mem hlt);rw[<-HF.out.cell (p:=⟨b,off+k*2,none⟩) hb id]at c0;rw[<-HF.out.cell (p:=⟨b,off+k*2+1,none⟩) hb id]at c1;have hbr:b<wr.heap.size:=Nat.lt_of_lt_of_le hb HF.out.size;generalize zs[k]=z at*;obtain⟨z,p⟩:=z;simp only at c0 c1 hp;obtain⟨r,hr,er⟩:=modk z (k:=10) (by decide) (by decide);have HER:=Lib.hid er;have HKT:=Lib.hid (kindT_at (r:=r) (by omega));have HPG:=Lib.hid hp;clear hcell g1 g2 er;have hq0:0<=p.tmod m:=Int.tmod_nonneg _ hp.1;have hq1:p.tmod m<m:=Int.tmod_lt_of_pos _ (by omega);obtain⟨q,hq⟩:=Int.eq_ofNat_of_zero_le hq0;rw[hq]at hq1;have e1:IntKind.u32.wrap (m:Int)=m:=IntWalk.u32_in _ (by omega);have e2:IntKind.u32.wrap (q:Int)=q:=IntWalk.u32_in _ (by omega);have e3:IntKind.u32.wrap (1+(q:Int))=((q+1:Nat):Int):=by rw[IntWalk.u32_in _ (by omega)];omega
    have e4:((m:Int)==0)=false:=by simp;omega
    have HQ1:=Lib.hid hq1;have HE:=Lib.hid (And.intro hq (And.intro e1 (And.intro e2 (And.intro e3 e4))));clear hq0 hq hq1 e1 e2 e3 e4 hp;go_wp2;rw[HER.out];have hk0:=HKT.out;have hr0:r<10:=by omega
    have hm0:¬m=0:=by omega
    have hkt:kindT r<4:=kindT_lt r;have HKT4:=Lib.hid hkt;generalize kindT r=kk at*;clear hkt;obtain⟨hq,e1,e2,e3,e4⟩:=HE.out;have HSZ:=Lib.hid HF.out.size
    go_region_law(first
     |(refine appSB (base:=w.heap.size) EIo rfl (.tmp 26) (.tmp 41) rfl (by rfl) (by rfl) (by have:=HSZ.out;simp;omega) (own_keep HO.out (by repeat(first|exact Fr.refl NoF _|apply Fr.drew|apply Fr.alloc)) (fun _ _ q=>q)) (sl_heap (size:=2) (n:=1) (cs:=#[.int .i64 kk,.int .u32 ((q:Int)+1)]) (by(try rw[heap_drew]);refine heap_alloc_new _ _ _ ?_;simp) (by rfl) (by unfold maxLen;omega) (by simp[Value.oneCell'])) (by unfold maxLen;omega) (by omega) ?_;intro v' w2 hown' hf' hob';have HO':=Lib.hid hown';have HF':=Lib.hid hf';clear hown' hf' hob'))
    all_goals
     go_wp2
     go_roundw
     case rel=>
      obtain⟨hl,hlo⟩:=HL.out;refine⟨k+1,l++[(kk,q+1)],by omega,by omega,by go_num,by simp[hl],fun o ho=>?_,by simpa[opsF]using HO'.out,?_⟩
      .rcases List.mem_append.1 ho with h|h
       .exact hlo o h
       .rw[List.mem_singleton.1 h];have g1:=HKT4.out;have g2:=HQ1.out;exact⟨g1,by omega,by simp only;omega⟩
      .refine Fr.trans ?_ HF'.out (fun i hi=>.inr (ownBlock_own HO.out i hi))
       refine Fr.trans (G:=NoF) HF.out ?_ (fun _ h=>h.elim)
       repeat(first|exact Fr.refl NoF _|apply Fr.drew|apply Fr.alloc)
     case measure=>first|(simp[intOf];done)|(simp[intOf];omega)
   .obtain rfl:k=150:=by omega
    go_wp2;go_returns;refine⟨_,rfl,l,by have:=HL.out.1;omega,HL.out.2,?_,fun b hb=>ownBlock_own HO.out b hb,HF.out⟩;have:=SlC.ofOwn HO.out (fun u hu=>?_)
    .unfold ArgP;rw[HL.out.1];exact this
    .obtain⟨o,_,ho⟩:=List.mem_flatMap.1 hu
     simp at ho;rcases ho with rfl|rfl<;>rfl
  .obtain rfl:k=zs.length:=by omega
   go_wp2;go_returns;refine⟨_,rfl,l,by have:=HL.out.1;omega,HL.out.2,?_,fun b hb=>ownBlock_own HO.out b hb,HF.out⟩;have:=SlC.ofOwn HO.out (fun u hu=>?_)
   .unfold ArgP;rw[HL.out.1];exact this
   .obtain⟨o,_,ho⟩:=List.mem_flatMap.1 hu
    simp at ho;rcases ho with rfl|rfl<;>rfl
end
section
def cutOld(out:Nat)(l:List Nat):List Nat:=if out<l.length then l.drop 1 else l
end
end Go.Proofs.Ytcccbdnojlmgaaa
