/- Part 36. -/
import Derived.Test.YtcccbdnojlmgaaaK35
namespace Go.Proofs.Ytcccbdnojlmgaaa
set_option linter.all false
set_option maxHeartbeats 16000000
set_option maxRecDepth 100000
section
open Go.RowKit
section
variable{w w' w0 w2:World}{pb gb ob n K near kept:Nat}{hc hc':Nat->Value}{s s':S5}{pv pv':List (Pa×Value)}{F0 D0:Nat->Prop}
theorem M5.frame(h:M5 w pb gb ob n K near kept hc s pv)(hi:Inv5 K kept n s){g:Nat}(hg:okF s.page s.on g=true):∃(j:Nat) (a:Pa) (v:Value),idxP s.ps (s.pg g)=some j∧pv[j]?=some (a,v)∧s.pa g=a∧PaOk K s.T a∧SlK .i64 w v a.ts∧¬s.pg g=0:=by
 have hp:¬s.pg g=0:=by
  unfold okF at hg;intro q;unfold S5.pg at q;rw[q]at hg;simp at hg
 have hs:=hi.fp g hp
 cases e:getP s.ps (s.pg g)with
 |none=>rw[e]at hs;cases hs
 |some a=>
  obtain⟨j,ej⟩:=getP_idx e;have hget:=idxP_get ej hi.one;rw[e,h.ps,List.getElem?_map]at hget
  cases ep:pv[j]? with
  |none=>rw[ep]at hget;cases hget
  |some x=>
   rw[ep]at hget;obtain⟨a',v⟩:=x;simp at hget;subst hget;exact⟨j,a',v,ej,ep,by unfold S5.pa;rw[e];rfl,hi.ok a' (getP_mem e).1,(h.ts _ (List.mem_of_getElem? ep)).1,hp⟩
theorem best_is(s:S5)(K near:Nat)(all:Bool):∀(m f:Nat),s.bestF K near all m=some f->f<m∧s.may near all f=true
 |0,f,h=>by cases h
 |m+1,f,h=>by
  unfold S5.bestF at h;by_cases hm:s.may near all m=true
  .rw[if_pos hm]at h
   cases e:s.bestF K near all m with
   |none=>rw[e]at h;injection h with h;subst h;exact⟨Nat.lt_succ_self _,hm⟩
   |some o=>
    rw[e]at h;obtain⟨b1,b2⟩:=best_is s K near all m o e;simp only at h;by_cases hw:s.worse K m o=true
    .rw[if_pos hw]at h;injection h with h;subst h;exact⟨by omega,b2⟩
    .rw[if_neg hw]at h;injection h with h;subst h;exact⟨Nat.lt_succ_self _,hm⟩
  .rw[if_neg hm]at h
   obtain⟨b1,b2⟩:=best_is s K near all m f h;exact⟨by omega,b2⟩
theorem may_okF{all:Bool}{f:Nat}(h:s.may near all f=true):okF s.page s.on f=true:=by
 unfold S5.may at h;rw[Bool.and_eq_true]at h;exact h.1
theorem best_skip{all:Bool}{m:Nat}(h:s.may near all m=false):s.bestF K near all (m+1)=s.bestF K near all m:=by
 conv=>lhs;unfold S5.bestF
 rw[h];rfl
theorem best_first{all:Bool}{m:Nat}(h:s.may near all m=true)(hb:s.bestF K near all m=none):s.bestF K near all (m+1)=some m:=by
 conv=>lhs;unfold S5.bestF
 rw[h,hb];rfl
theorem best_next{all:Bool}{m o:Nat}(h:s.may near all m=true)(hb:s.bestF K near all m=some o):s.bestF K near all (m+1)=if s.worse K m o=true then some o else some m:=by
 conv=>lhs;unfold S5.bestF
 rw[h,hb];rfl
def BestRel(w0:World)(s:S5)(K near:Nat)(all:Bool)(n:Nat)(o i:Value)(wr:World):Prop:=
 ∃m:Nat,m<=n∧i=.int .i64 m∧o=.int .i64 (fstI (s.bestF K near all m))∧Fr NoF w0 wr
theorem s5_best(h:M5 w pb gb ob n K near kept hc s pv)(hi:Inv5 K kept n s)(hT:s.T<100000)(hK:K<1000)(hr:near<1000)(all:Bool):Calls Try.prog 42 #[.pointer (some ⟨pb,0,none⟩),.bool all] w fun e w'=>e=.returned (.int .i64 (fstI (s.bestF K near all n)))∧Fr NoF w w':=by
 have hpl:pv.length<100000:=by rw[<-h.pl];have:=hi.len;omega
 have HOF:Hid (∀W,Fr NoF w W->∀x:Nat,Calls Try.prog 45 #[.pointer (some ⟨pb,0,none⟩),.int .u32 x] W fun e w'=>e=.returned (.int .i64 (fstI (idxP s.ps x)))∧W=w'):=fun W f x=>s5_of (h.fr0 f) (by omega) x
 obtain⟨a6,k6,e6,q1,q2⟩:=own_shape h.own;have hn:=h.g.hn;unfold maxLen at q2
 have KC:Hid (∀W,Fr NoF w W->W.cell? ⟨pb,0,none⟩=some (.int .i64 n)∧W.cell? ⟨pb,1,none⟩=some (.int .i64 K)∧W.cell? ⟨pb,2,none⟩=some (.int .i64 near)∧W.cell? ⟨pb,4,none⟩=some (.slice (some ⟨gb,0,none⟩) n n)∧W.cell? ⟨pb,5,none⟩=some (.slice (some ⟨ob,0,none⟩) n n)∧W.cell? ⟨pb,6,none⟩=some (.slice a6 pv.length k6)∧W.cell? ⟨pb,8,none⟩=some (.int .i64 s.T)∧pb<W.heap.size∧gb<W.heap.size):=fun W f=>by
  have hw:=h.fr0 f;exact⟨hw.g.c 0 (by omega) h.c0,hw.g.c 1 (by omega) h.c1,hw.g.c 2 (by omega) h.c2,hw.g.c 4 (by omega) h.c4,hw.g.c 5 (by omega) h.c5,hw.g.c 6 (by omega) e6,hw.g.c 8 (by omega) h.c8,hw.g.hd.lt,hw.g.pg.lt⟩
 have KP:Hid (∀W,Fr NoF w W->∀a,a<n->W.cell? ⟨gb,a,none⟩=some (.int .u32 (s.pg a:Nat))∧W.cell? ⟨ob,a,none⟩=some (.bool (s.on a))):=fun W f a ha=>⟨(h.fr0 f).g.cp ha,(h.fr0 f).g.co ha⟩
 obtain⟨k1,rfl⟩:∃k1,K=k1+1:=⟨K-1,by have:=hi.k1;omega⟩
 have KX:Hid (∀g,okF s.page s.on g=true->∃(j b bt ot ct p:Nat),idxP s.ps (s.pg g)=some j∧j<pv.length∧a6=some ⟨b,0,none⟩∧k1+1<=ct∧ct<=9223372036854775807∧(s.key (k1+1) g).2<=s.T∧s.may near false g=decide (near<s.T+1-(s.key (k1+1) g).2)∧Hid (∀W,Fr NoF w W->W.cell? ⟨b,j*3,none⟩=some (.int .u32 (p:Nat))∧W.cell? ⟨b,j*3+1,none⟩=some (.int .i64 ((s.key (k1+1) g).2:Nat))∧W.cell? ⟨b,j*3+2,none⟩=some (.slice (some ⟨bt,ot,none⟩) (k1+1) ct)∧W.cell? ⟨bt,ot+k1,none⟩=some (.int .i64 ((s.key (k1+1) g).1:Nat))∧b<W.heap.size∧bt<W.heap.size)):=fun g hg=>by
  obtain⟨j,a,v,x1,x2,x3,x4,x5,x6⟩:=h.frame hi hg;obtain⟨bt,ot,ct,rfl,z1,z2,_,_⟩:=x5.at (i:=k1) (by rw[x4.len];omega);obtain⟨b,c,y0,_,_,_,_,_,_,_⟩:=h.past x2;rw[e6]at y0;simp only[Value.slice.injEq]at y0;refine⟨j,b,bt,ot,ct,a.p,x1,(List.getElem?_eq_some_iff.1 x2).1,y0.1,by rw[x4.len]at z1;exact z1,by unfold maxLen at z2;omega,by unfold S5.key;rw[x3];exact x4.lT,by unfold S5.may S5.key;rw[hg];rfl,fun W f=>?_⟩;have hw:=h.fr0 f;obtain⟨b',c',y0',_,_,y1,_,y2,y3,y4⟩:=hw.past x2;rw[e6]at y0';simp only[Value.slice.injEq]at y0';obtain rfl:b=b':=by have:=y0.1.symm.trans y0'.1;simpa using this
  obtain⟨bt',ot',ct',ev,_,_,z3,z4⟩:=(x5.keep f).at (i:=k1) (by rw[x4.len];omega);simp only[Value.slice.injEq,Option.some.injEq,Addr.mk.injEq]at ev;obtain⟨⟨rfl,rfl,_⟩,_,rfl⟩:=ev
  have hg0:a.ts.getD (k1+1-1) 0=a.ts[k1]'(by rw[x4.len];omega):=by
   rw[List.getD_eq_getElem?_getD,show k1+1-1=k1 from by omega,List.getElem?_eq_getElem (by rw[x4.len];omega)];rfl
  refine⟨y2,by unfold S5.key;rw[x3];exact y3,by rw[x4.len]at y4;exact y4,?_,y1,z3⟩;unfold S5.key;rw[x3,hg0];exact z4
 have hks:((k1+1:Nat):Int)-1=(k1:Int):=by omega
 clear h hi e6
 cases all with
 |true=>
  go_enter Try.func42,Try.ntmps42;go_wp2
  go_loopw [5,6] (BestRel w s (k1+1) near true n) (fun _ i _=>n-(intOf i).toNat)
  case atStart=>exact⟨0,Nat.zero_le _,rfl,rfl,Fr.refl _ _⟩
  case round=>
   obtain⟨m,hm,rfl,rfl,hf⟩:=hrel;have HF:=Lib.hid hf;obtain⟨c0,c1,c2,c4,c5,c6,c8,lp,lg⟩:=KC.out wr hf;by_cases hlt:m<n
   .obtain⟨cp,co⟩:=KP.out wr hf m hlt
    have hsz:=hf.size;clear hf;have hok:okF s.page s.on m=(!decide (s.pg m=0)&&s.on m):=rfl;by_cases hz:s.pg m=0
    .rw[hz]at cp
     replace cp:wr.cell? ⟨gb,m,none⟩=some (.int .u32 0):=cp
     have HS:Hid (s.bestF (k1+1) near true (m+1)=s.bestF (k1+1) near true m):=best_skip (by unfold S5.may;rw[hok,hz];rfl);generalize s.on m=z1 at co;clear hok hz;go_wp2
     go_roundw
     case rel=>exact⟨m+1,by omega,by go_num,by rw[HS.out],HF.out⟩
     case measure=>first|(simp[intOf];done)|(simp[intOf];omega)
    .have b1:(((s.pg m:Nat):Int)==0)=false:=by simp;omega
     cases hon:s.on m with
     |false=>
      rw[hon]at co;have HS:Hid (s.bestF (k1+1) near true (m+1)=s.bestF (k1+1) near true m):=best_skip (by unfold S5.may;rw[hok,hon];simp);generalize s.pg m=z1 at*;clear hok hz hon;go_wp2
      go_roundw
      case rel=>exact⟨m+1,by omega,by go_num,by rw[HS.out],HF.out⟩
      case measure=>first|(simp[intOf];done)|(simp[intOf];omega)
     |true=>
      rw[hon]at co;have hoktrue:okF s.page s.on m=true:=by rw[hok,hon];simp;exact hz
      obtain⟨j,b,bt,ot,ct,p,x1,x2,rfl,x4,x5,x6,x7,KW⟩:=KX.out m hoktrue;obtain⟨y0,y1,y2,y3,lb,lt⟩:=KW.out wr HF.out;have HOKM:=Lib.hid hoktrue
      have HCA:Hid (∀W,Fr NoF wr W->Calls Try.prog 45 #[.pointer (some ⟨pb,0,none⟩),.int .u32 (s.pg m:Nat)] W fun e w'=>e=.returned (.int .i64 (j:Nat))∧W=w'):=fun W f=>by
       have:=HOF.out W (HF.out.trans f (fun _ q=>q.elim)) (s.pg m);rw[x1]at this;exact this
      have hlT:(s.key (k1+1) m).2<=s.T:=x6;have HX7:=Lib.hid x7;generalize htm:(s.key (k1+1) m).1=tm at*;generalize hlm:(s.key (k1+1) m).2=lm at*;have HTM:=Lib.hid htm;have HLM:=Lib.hid hlm;generalize s.pg m=z1 at*;clear hok hz hon htm hlm x1 x6 x7 hoktrue;go_wp2;have KS:Hid (∀W,Fr NoF wr W->W.cell? ⟨pb,6,none⟩=some (.slice (some ⟨b,0,none⟩) pv.length k6)∧W.cell? ⟨pb,4,none⟩=some (.slice (some ⟨gb,0,none⟩) n n)∧W.cell? ⟨gb,m,none⟩=some (.int .u32 (z1:Nat))∧W.cell? ⟨b,j*3,none⟩=some (.int .u32 (p:Nat))∧W.cell? ⟨b,j*3+1,none⟩=some (.int .i64 (lm:Nat))∧W.cell? ⟨b,j*3+2,none⟩=some (.slice (some ⟨bt,ot,none⟩) (k1+1) ct)):=fun W f=>⟨(f.cell lp id).trans c6,(f.cell lp id).trans c4,(f.cell lg id).trans cp,(f.cell lb id).trans y0,(f.cell lb id).trans y1,(f.cell lb id).trans y2⟩
      go_region_held3(fun w'=>w'.cell? ⟨pb,6,none⟩=some (.slice (some ⟨b,0,none⟩) pv.length k6)∧w'.cell? ⟨pb,4,none⟩=some (.slice (some ⟨gb,0,none⟩) n n)∧w'.cell? ⟨gb,m,none⟩=some (.int .u32 (z1:Nat))∧w'.cell? ⟨b,j*3,none⟩=some (.int .u32 (p:Nat))∧w'.cell? ⟨b,j*3+1,none⟩=some (.int .i64 (lm:Nat))∧w'.cell? ⟨b,j*3+2,none⟩=some (.slice (some ⟨bt,ot,none⟩) (k1+1) ct))
       (exact KS.out _ (by repeat(first|exact Fr.refl NoF _|apply Fr.drew|apply Fr.drewN|apply Fr.alloc|refine Fr.setCell ?_ (.inr (Nat.le_refl _)) _)))
       (first|(go_at_call 45;(with_reducible refine(HCA.out _ (by repeat(first|exact Fr.refl NoF _|apply Fr.drew|apply Fr.drewN|apply Fr.alloc))).mono ?_);rintro e w3⟨rfl,rfl⟩))
      all_goals
       obtain⟨wA,hA⟩:∃x,x=(wr.alloc (.cells #[.int .u32 (p:Nat),.int .i64 (lm:Nat),.slice (some ⟨bt,ot,none⟩) (k1+1) ct] 97)).drew:=⟨_,rfl⟩;rw[<-hA];have fA:Fr NoF wr wA:=by rw[hA];exact((Fr.refl NoF wr).alloc _).drew
       have bA:Blk wA wr.heap.size 3 (fun i=>(#[.int .u32 (p:Nat),.int .i64 (lm:Nat),.slice (some ⟨bt,ot,none⟩) (k1+1) ct]:Array Value).getD i (.int .i64 0)):=by
        rw[hA];refine(Blk.new wr _ 97 3 _ _ rfl rfl (fun i hi=>?_)).drew
        match i,hi with
        |0,_=>rfl
        |1,_=>rfl
        |2,_=>rfl
       have HFA:=Lib.hid (HF.out.trans fA (fun _ q=>q.elim));have HBA:=Lib.hid bA;obtain⟨xb,hxb⟩:∃x,x=wr.heap.size:=⟨_,rfl⟩;rw[<-hxb]at HBA⊢;have HXB:=Lib.hid hxb;clear hxb;have a1:wA.cell? ⟨xb,1,none⟩=some (.int .i64 (lm:Nat)):=HBA.out.cell (i:=1) (by omega);have lxb:xb<wA.heap.size:=HBA.out.lt;clear hA fA bA c0 c1 c2 c4 c5 c6 c8 lp lg cp co y0 y1 y2 y3 lb lt b1;obtain⟨c0,c1,c2,c4,c5,c6,c8,lp,lg⟩:=KC.out wA HFA.out;have HMAY:Hid (s.may near true m=true):=by unfold Hid S5.may;rw[HOKM.out];rfl
       go_wp2
       go_quiet (fail)
       rename_i nq;have fq:Fr NoF wA (wA.drewN nq):=(Fr.refl NoF wA).drewN nq;have HFQ:=Lib.hid (HFA.out.trans fq (fun _ q=>q.elim));have HBQ:=Lib.hid (HBA.out.fr fq id);clear a1 lxb c0 c1 c2 c4 c5 c6 c8 lp lg HFA HBA;generalize wA.drewN nq=wQ at*;clear fq;have HFA:=HFQ;have HBA:=HBQ;clear HFQ HBQ;have a1:wQ.cell? ⟨xb,1,none⟩=some (.int .i64 (lm:Nat)):=HBA.out.cell (i:=1) (by omega);have lxb:xb<wQ.heap.size:=HBA.out.lt;obtain⟨c0,c1,c2,c4,c5,c6,c8,lp,lg⟩:=KC.out wQ HFA.out
       cases eb:s.bestF (k1+1) near true m with
       |none=>
        have HS:Hid (s.bestF (k1+1) near true (m+1)=some m):=best_first HMAY.out eb;have HEB:=Lib.hid eb;rw[show fstI none= -1 from rfl];clear eb;go_wp2
        go_roundw
        case rel=>exact⟨m+1,by omega,by go_num,by rw[HS.out];rfl,by repeat(first|exact HFA.out|apply Fr.drewN|apply Fr.drew)⟩
        case measure=>first|(simp[intOf];done)|(simp[intOf];omega)
       |some o=>
        have HNX:=Lib.hid (best_next HMAY.out eb);obtain⟨hom,hmo⟩:=best_is s (k1+1) near true m o eb;obtain⟨jo,bo,bto,oto,cto,po,x1,x2o,xe,x4o,x5o,x6,x7,KWo⟩:=KX.out o (may_okF hmo);obtain rfl:b=bo:=by simpa using xe
        have HCB:Hid (∀W,Fr NoF wQ W->Calls Try.prog 45 #[.pointer (some ⟨pb,0,none⟩),.int .u32 (s.pg o:Nat)] W fun e w'=>e=.returned (.int .i64 (jo:Nat))∧W=w'):=fun W f=>by
         have:=HOF.out W (HFA.out.trans f (fun _ q=>q.elim)) (s.pg o);rw[x1]at this;exact this
        obtain⟨y0,y1,y2,y3,lb,lt⟩:=KWo.out wQ HFA.out;obtain⟨cp,co⟩:=KP.out wQ HFA.out o (by omega);have hon:o<n:=by omega
        generalize hto:(s.key (k1+1) o).1=tO at*;generalize hlo:(s.key (k1+1) o).2=lo at*;have HTO:=Lib.hid hto;have HLO:=Lib.hid hlo;generalize s.pg o=zo at*;rw[show fstI (some o)=(o:Int)from rfl];clear eb hto hlo xe x1 x6 x7 hmo co;go_wp2;have KSo:Hid (∀W,Fr NoF wQ W->W.cell? ⟨pb,6,none⟩=some (.slice (some ⟨b,0,none⟩) pv.length k6)∧W.cell? ⟨pb,4,none⟩=some (.slice (some ⟨gb,0,none⟩) n n)∧W.cell? ⟨gb,o,none⟩=some (.int .u32 (zo:Nat))∧W.cell? ⟨b,jo*3,none⟩=some (.int .u32 (po:Nat))∧W.cell? ⟨b,jo*3+1,none⟩=some (.int .i64 (lo:Nat))∧W.cell? ⟨b,jo*3+2,none⟩=some (.slice (some ⟨bto,oto,none⟩) (k1+1) cto)):=fun W f=>⟨(f.cell lp id).trans c6,(f.cell lp id).trans c4,(f.cell lg id).trans cp,(f.cell lb id).trans y0,(f.cell lb id).trans y1,(f.cell lb id).trans y2⟩
        go_region_held3(fun w'=>w'.cell? ⟨pb,6,none⟩=some (.slice (some ⟨b,0,none⟩) pv.length k6)∧w'.cell? ⟨pb,4,none⟩=some (.slice (some ⟨gb,0,none⟩) n n)∧w'.cell? ⟨gb,o,none⟩=some (.int .u32 (zo:Nat))∧w'.cell? ⟨b,jo*3,none⟩=some (.int .u32 (po:Nat))∧w'.cell? ⟨b,jo*3+1,none⟩=some (.int .i64 (lo:Nat))∧w'.cell? ⟨b,jo*3+2,none⟩=some (.slice (some ⟨bto,oto,none⟩) (k1+1) cto))
         (exact KSo.out _ (by repeat(first|exact Fr.refl NoF _|apply Fr.drew|apply Fr.drewN|apply Fr.alloc|refine Fr.setCell ?_ (.inr (Nat.le_refl _)) _)))
         (first|(go_at_call 45;(with_reducible refine(HCB.out _ (by repeat(first|exact Fr.refl NoF _|apply Fr.drew|apply Fr.drewN|apply Fr.alloc))).mono ?_);rintro e w3⟨rfl,rfl⟩))
        all_goals
         obtain⟨wB,hB⟩:∃x,x=(wQ.alloc (.cells #[.int .u32 (po:Nat),.int .i64 (lo:Nat),.slice (some ⟨bto,oto,none⟩) (k1+1) cto] 97)).drew:=⟨_,rfl⟩;rw[<-hB];have fB:Fr NoF wQ wB:=by rw[hB];exact((Fr.refl NoF wQ).alloc _).drew
         have bB:Blk wB wQ.heap.size 3 (fun i=>(#[.int .u32 (po:Nat),.int .i64 (lo:Nat),.slice (some ⟨bto,oto,none⟩) (k1+1) cto]:Array Value).getD i (.int .i64 0)):=by
          rw[hB];refine(Blk.new wQ _ 97 3 _ _ rfl rfl (fun i hi=>?_)).drew
          match i,hi with
          |0,_=>rfl
          |1,_=>rfl
          |2,_=>rfl
         have HFB:=Lib.hid (HFA.out.trans fB (fun _ q=>q.elim));have HBB:=Lib.hid bB;have HBX:=Lib.hid (HBA.out.fr fB id);obtain⟨yb,hyb⟩:∃x,x=wQ.heap.size:=⟨_,rfl⟩;rw[<-hyb]at HBB⊢;have HYB:=Lib.hid hyb;clear hyb;have xa1:wB.cell? ⟨xb,1,none⟩=some (.int .i64 (lm:Nat)):=HBX.out.cell (i:=1) (by omega);have xa2:wB.cell? ⟨xb,2,none⟩=some (.slice (some ⟨bt,ot,none⟩) (k1+1) ct):=HBX.out.cell (i:=2) (by omega);have ya1:wB.cell? ⟨yb,1,none⟩=some (.int .i64 (lo:Nat)):=HBB.out.cell (i:=1) (by omega);have ya2:wB.cell? ⟨yb,2,none⟩=some (.slice (some ⟨bto,oto,none⟩) (k1+1) cto):=HBB.out.cell (i:=2) (by omega);have lxb2:xb<wB.heap.size:=HBX.out.lt;have lyb2:yb<wB.heap.size:=HBB.out.lt;clear hB fB bB c0 c1 c2 c4 c5 c6 c8 lp lg cp y0 y1 y2 y3 lb lt a1 lxb;obtain⟨c0,c1,c2,c4,c5,c6,c8,lp,lg⟩:=KC.out wB HFB.out;obtain⟨_,_,_,tm3,_,ltm⟩:=KW.out wB HFB.out;obtain⟨_,_,_,to3,_,lto⟩:=KWo.out wB HFB.out
         have hcs:(s.worse (k1+1) m o=true∧(tO<tm∨(¬tO<tm∧tm=tO∧lo<lm)))∨(s.worse (k1+1) m o=false∧((¬tO<tm∧¬tm=tO)∨(¬tO<tm∧tm=tO∧¬lo<lm))):=by
          unfold S5.worse;rw[HTM.out,HTO.out,HLM.out,HLO.out];simp only[Bool.or_eq_true,Bool.and_eq_true,decide_eq_true_eq,Bool.or_eq_false_iff,Bool.and_eq_false_iff,decide_eq_false_iff_not];omega
         rcases hcs with⟨hw,hg|⟨hg1,hg2,hg3⟩⟩|⟨hw,⟨hg1,hg2⟩|⟨hg1,hg2,hg3⟩⟩
         .have HW:=Lib.hid hw
          have g1:decide (tO<tm)=true:=by simpa using hg
          clear hw hg;go_wp2
          go_quiet (fail)
          go_wp2
          go_roundw
          case rel=>exact⟨m+1,by omega,by go_num,by rw[HNX.out,HW.out];rfl,by repeat(first|exact HFB.out|apply Fr.drewN|apply Fr.drew)⟩
          case measure=>first|(simp[intOf];done)|(simp[intOf];omega)
         .have HW:=Lib.hid hw
          have g1:decide (tO<tm)=false:=by simpa using hg1
          subst hg2;have g2:decide (lo<lm)=true:=by simpa using hg3
          clear hw hg1 hg3;go_wp2
          go_quiet (fail)
          go_wp2
          go_roundw
          case rel=>exact⟨m+1,by omega,by go_num,by rw[HNX.out,HW.out];rfl,by repeat(first|exact HFB.out|apply Fr.drewN|apply Fr.drew)⟩
          case measure=>first|(simp[intOf];done)|(simp[intOf];omega)
         .have HW:=Lib.hid hw
          have g1:decide (tO<tm)=false:=by simpa using hg1
          have g2:((tm:Int)==(tO:Int))=false:=by simp;omega
          clear hw hg1 hg2;go_wp2
          go_quiet (fail)
          go_wp2
          go_roundw
          case rel=>exact⟨m+1,by omega,by go_num,by rw[HNX.out,HW.out];rfl,by repeat(first|exact HFB.out|apply Fr.drewN|apply Fr.drew)⟩
          case measure=>first|(simp[intOf];done)|(simp[intOf];omega)
         .have HW:=Lib.hid hw
          have g1:decide (tO<tm)=false:=by simpa using hg1
          subst hg2;have g2:decide (lo<lm)=false:=by simpa using hg3
          clear hw hg1 hg3;go_wp2
          go_quiet (fail)
          go_wp2
          go_roundw
          case rel=>exact⟨m+1,by omega,by go_num,by rw[HNX.out,HW.out];rfl,by repeat(first|exact HFB.out|apply Fr.drewN|apply Fr.drew)⟩
          case measure=>first|(simp[intOf];done)|(simp[intOf];omega)
   .obtain rfl:m=n:=by omega
    clear hf;go_wp2;go_returns;exact⟨rfl,HF.out⟩
 |false=>
  go_enter Try.func42,Try.ntmps42;go_wp2
  go_loopw [5,6] (BestRel w s (k1+1) near false n) (fun _ i _=>n-(intOf i).toNat)
  case atStart=>exact⟨0,Nat.zero_le _,rfl,rfl,Fr.refl _ _⟩
  case round=>
   obtain⟨m,hm,rfl,rfl,hf⟩:=hrel;have HF:=Lib.hid hf;obtain⟨c0,c1,c2,c4,c5,c6,c8,lp,lg⟩:=KC.out wr hf;by_cases hlt:m<n
   .obtain⟨cp,co⟩:=KP.out wr hf m hlt
    have hsz:=hf.size;clear hf;have hok:okF s.page s.on m=(!decide (s.pg m=0)&&s.on m):=rfl;by_cases hz:s.pg m=0
    .rw[hz]at cp
     replace cp:wr.cell? ⟨gb,m,none⟩=some (.int .u32 0):=cp
     have HS:Hid (s.bestF (k1+1) near false (m+1)=s.bestF (k1+1) near false m):=best_skip (by unfold S5.may;rw[hok,hz];rfl);generalize s.on m=z1 at co;clear hok hz;go_wp2
     go_roundw
     case rel=>exact⟨m+1,by omega,by go_num,by rw[HS.out],HF.out⟩
     case measure=>first|(simp[intOf];done)|(simp[intOf];omega)
    .have b1:(((s.pg m:Nat):Int)==0)=false:=by simp;omega
     cases hon:s.on m with
     |false=>
      rw[hon]at co;have HS:Hid (s.bestF (k1+1) near false (m+1)=s.bestF (k1+1) near false m):=best_skip (by unfold S5.may;rw[hok,hon];simp);generalize s.pg m=z1 at*;clear hok hz hon;go_wp2
      go_roundw
      case rel=>exact⟨m+1,by omega,by go_num,by rw[HS.out],HF.out⟩
      case measure=>first|(simp[intOf];done)|(simp[intOf];omega)
     |true=>
      rw[hon]at co;have hoktrue:okF s.page s.on m=true:=by rw[hok,hon];simp;exact hz
      obtain⟨j,b,bt,ot,ct,p,x1,x2,rfl,x4,x5,x6,x7,KW⟩:=KX.out m hoktrue;obtain⟨y0,y1,y2,y3,lb,lt⟩:=KW.out wr HF.out;have HOKM:=Lib.hid hoktrue
      have HCA:Hid (∀W,Fr NoF wr W->Calls Try.prog 45 #[.pointer (some ⟨pb,0,none⟩),.int .u32 (s.pg m:Nat)] W fun e w'=>e=.returned (.int .i64 (j:Nat))∧W=w'):=fun W f=>by
       have:=HOF.out W (HF.out.trans f (fun _ q=>q.elim)) (s.pg m);rw[x1]at this;exact this
      have hlT:(s.key (k1+1) m).2<=s.T:=x6;have HX7:=Lib.hid x7;generalize htm:(s.key (k1+1) m).1=tm at*;generalize hlm:(s.key (k1+1) m).2=lm at*;have HTM:=Lib.hid htm;have HLM:=Lib.hid hlm;generalize s.pg m=z1 at*;clear hok hz hon htm hlm x1 x6 x7 hoktrue;go_wp2;have KS:Hid (∀W,Fr NoF wr W->W.cell? ⟨pb,6,none⟩=some (.slice (some ⟨b,0,none⟩) pv.length k6)∧W.cell? ⟨pb,4,none⟩=some (.slice (some ⟨gb,0,none⟩) n n)∧W.cell? ⟨gb,m,none⟩=some (.int .u32 (z1:Nat))∧W.cell? ⟨b,j*3,none⟩=some (.int .u32 (p:Nat))∧W.cell? ⟨b,j*3+1,none⟩=some (.int .i64 (lm:Nat))∧W.cell? ⟨b,j*3+2,none⟩=some (.slice (some ⟨bt,ot,none⟩) (k1+1) ct)):=fun W f=>⟨(f.cell lp id).trans c6,(f.cell lp id).trans c4,(f.cell lg id).trans cp,(f.cell lb id).trans y0,(f.cell lb id).trans y1,(f.cell lb id).trans y2⟩
      go_region_held3(fun w'=>w'.cell? ⟨pb,6,none⟩=some (.slice (some ⟨b,0,none⟩) pv.length k6)∧w'.cell? ⟨pb,4,none⟩=some (.slice (some ⟨gb,0,none⟩) n n)∧w'.cell? ⟨gb,m,none⟩=some (.int .u32 (z1:Nat))∧w'.cell? ⟨b,j*3,none⟩=some (.int .u32 (p:Nat))∧w'.cell? ⟨b,j*3+1,none⟩=some (.int .i64 (lm:Nat))∧w'.cell? ⟨b,j*3+2,none⟩=some (.slice (some ⟨bt,ot,none⟩) (k1+1) ct))
       (exact KS.out _ (by repeat(first|exact Fr.refl NoF _|apply Fr.drew|apply Fr.drewN|apply Fr.alloc|refine Fr.setCell ?_ (.inr (Nat.le_refl _)) _)))
       (first|(go_at_call 45;(with_reducible refine(HCA.out _ (by repeat(first|exact Fr.refl NoF _|apply Fr.drew|apply Fr.drewN|apply Fr.alloc))).mono ?_);rintro e w3⟨rfl,rfl⟩))
      all_goals
       obtain⟨wA,hA⟩:∃x,x=(wr.alloc (.cells #[.int .u32 (p:Nat),.int .i64 (lm:Nat),.slice (some ⟨bt,ot,none⟩) (k1+1) ct] 97)).drew:=⟨_,rfl⟩;rw[<-hA];have fA:Fr NoF wr wA:=by rw[hA];exact((Fr.refl NoF wr).alloc _).drew
       have bA:Blk wA wr.heap.size 3 (fun i=>(#[.int .u32 (p:Nat),.int .i64 (lm:Nat),.slice (some ⟨bt,ot,none⟩) (k1+1) ct]:Array Value).getD i (.int .i64 0)):=by
        rw[hA];refine(Blk.new wr _ 97 3 _ _ rfl rfl (fun i hi=>?_)).drew
        match i,hi with
        |0,_=>rfl
        |1,_=>rfl
        |2,_=>rfl
       have HFA:=Lib.hid (HF.out.trans fA (fun _ q=>q.elim));have HBA:=Lib.hid bA;obtain⟨xb,hxb⟩:∃x,x=wr.heap.size:=⟨_,rfl⟩;rw[<-hxb]at HBA⊢;have HXB:=Lib.hid hxb;clear hxb;have a1:wA.cell? ⟨xb,1,none⟩=some (.int .i64 (lm:Nat)):=HBA.out.cell (i:=1) (by omega);have lxb:xb<wA.heap.size:=HBA.out.lt;clear hA fA bA c0 c1 c2 c4 c5 c6 c8 lp lg cp co y0 y1 y2 y3 lb lt b1;obtain⟨c0,c1,c2,c4,c5,c6,c8,lp,lg⟩:=KC.out wA HFA.out;have hmay:s.may near false m=decide (near<s.T+1-lm):=HX7.out;by_cases hnr:near<s.T+1-lm
       .have HMAY:Hid (s.may near false m=true):=by unfold Hid;rw[hmay];simpa using hnr
        clear hmay;have hgt:decide ((s.T:Int)+1-(lm:Int)<=(near:Int))=false:=by simp;omega
        clear hnr;go_wp2
        go_quiet (fail)
        rename_i nq;have fq:Fr NoF wA (wA.drewN nq):=(Fr.refl NoF wA).drewN nq;have HFQ:=Lib.hid (HFA.out.trans fq (fun _ q=>q.elim));have HBQ:=Lib.hid (HBA.out.fr fq id);clear a1 lxb c0 c1 c2 c4 c5 c6 c8 lp lg HFA HBA;generalize wA.drewN nq=wQ at*;clear fq;have HFA:=HFQ;have HBA:=HBQ;clear HFQ HBQ;have a1:wQ.cell? ⟨xb,1,none⟩=some (.int .i64 (lm:Nat)):=HBA.out.cell (i:=1) (by omega);have lxb:xb<wQ.heap.size:=HBA.out.lt;obtain⟨c0,c1,c2,c4,c5,c6,c8,lp,lg⟩:=KC.out wQ HFA.out
        cases eb:s.bestF (k1+1) near false m with
        |none=>
         have HS:Hid (s.bestF (k1+1) near false (m+1)=some m):=best_first HMAY.out eb;have HEB:=Lib.hid eb;rw[show fstI none= -1 from rfl];clear eb;go_wp2
         go_roundw
         case rel=>exact⟨m+1,by omega,by go_num,by rw[HS.out];rfl,by repeat(first|exact HFA.out|apply Fr.drewN|apply Fr.drew)⟩
         case measure=>first|(simp[intOf];done)|(simp[intOf];omega)
        |some o=>
         have HNX:=Lib.hid (best_next HMAY.out eb);obtain⟨hom,hmo⟩:=best_is s (k1+1) near false m o eb;obtain⟨jo,bo,bto,oto,cto,po,x1,x2o,xe,x4o,x5o,x6,x7,KWo⟩:=KX.out o (may_okF hmo);obtain rfl:b=bo:=by simpa using xe
         have HCB:Hid (∀W,Fr NoF wQ W->Calls Try.prog 45 #[.pointer (some ⟨pb,0,none⟩),.int .u32 (s.pg o:Nat)] W fun e w'=>e=.returned (.int .i64 (jo:Nat))∧W=w'):=fun W f=>by
          have:=HOF.out W (HFA.out.trans f (fun _ q=>q.elim)) (s.pg o);rw[x1]at this;exact this
         obtain⟨y0,y1,y2,y3,lb,lt⟩:=KWo.out wQ HFA.out;obtain⟨cp,co⟩:=KP.out wQ HFA.out o (by omega);have hon:o<n:=by omega
         generalize hto:(s.key (k1+1) o).1=tO at*;generalize hlo:(s.key (k1+1) o).2=lo at*;have HTO:=Lib.hid hto;have HLO:=Lib.hid hlo;generalize s.pg o=zo at*;rw[show fstI (some o)=(o:Int)from rfl];clear eb hto hlo xe x1 x6 x7 hmo co;go_wp2;have KSo:Hid (∀W,Fr NoF wQ W->W.cell? ⟨pb,6,none⟩=some (.slice (some ⟨b,0,none⟩) pv.length k6)∧W.cell? ⟨pb,4,none⟩=some (.slice (some ⟨gb,0,none⟩) n n)∧W.cell? ⟨gb,o,none⟩=some (.int .u32 (zo:Nat))∧W.cell? ⟨b,jo*3,none⟩=some (.int .u32 (po:Nat))∧W.cell? ⟨b,jo*3+1,none⟩=some (.int .i64 (lo:Nat))∧W.cell? ⟨b,jo*3+2,none⟩=some (.slice (some ⟨bto,oto,none⟩) (k1+1) cto)):=fun W f=>⟨(f.cell lp id).trans c6,(f.cell lp id).trans c4,(f.cell lg id).trans cp,(f.cell lb id).trans y0,(f.cell lb id).trans y1,(f.cell lb id).trans y2⟩
         go_region_held3(fun w'=>w'.cell? ⟨pb,6,none⟩=some (.slice (some ⟨b,0,none⟩) pv.length k6)∧w'.cell? ⟨pb,4,none⟩=some (.slice (some ⟨gb,0,none⟩) n n)∧w'.cell? ⟨gb,o,none⟩=some (.int .u32 (zo:Nat))∧w'.cell? ⟨b,jo*3,none⟩=some (.int .u32 (po:Nat))∧w'.cell? ⟨b,jo*3+1,none⟩=some (.int .i64 (lo:Nat))∧w'.cell? ⟨b,jo*3+2,none⟩=some (.slice (some ⟨bto,oto,none⟩) (k1+1) cto))
          (exact KSo.out _ (by repeat(first|exact Fr.refl NoF _|apply Fr.drew|apply Fr.drewN|apply Fr.alloc|refine Fr.setCell ?_ (.inr (Nat.le_refl _)) _)))
          (first|(go_at_call 45;(with_reducible refine(HCB.out _ (by repeat(first|exact Fr.refl NoF _|apply Fr.drew|apply Fr.drewN|apply Fr.alloc))).mono ?_);rintro e w3⟨rfl,rfl⟩))
         all_goals
          obtain⟨wB,hB⟩:∃x,x=(wQ.alloc (.cells #[.int .u32 (po:Nat),.int .i64 (lo:Nat),.slice (some ⟨bto,oto,none⟩) (k1+1) cto] 97)).drew:=⟨_,rfl⟩;rw[<-hB];have fB:Fr NoF wQ wB:=by rw[hB];exact((Fr.refl NoF wQ).alloc _).drew
          have bB:Blk wB wQ.heap.size 3 (fun i=>(#[.int .u32 (po:Nat),.int .i64 (lo:Nat),.slice (some ⟨bto,oto,none⟩) (k1+1) cto]:Array Value).getD i (.int .i64 0)):=by
           rw[hB];refine(Blk.new wQ _ 97 3 _ _ rfl rfl (fun i hi=>?_)).drew
           match i,hi with
           |0,_=>rfl
           |1,_=>rfl
           |2,_=>rfl
          have HFB:=Lib.hid (HFA.out.trans fB (fun _ q=>q.elim));have HBB:=Lib.hid bB;have HBX:=Lib.hid (HBA.out.fr fB id);obtain⟨yb,hyb⟩:∃x,x=wQ.heap.size:=⟨_,rfl⟩;rw[<-hyb]at HBB⊢;have HYB:=Lib.hid hyb;clear hyb;have xa1:wB.cell? ⟨xb,1,none⟩=some (.int .i64 (lm:Nat)):=HBX.out.cell (i:=1) (by omega);have xa2:wB.cell? ⟨xb,2,none⟩=some (.slice (some ⟨bt,ot,none⟩) (k1+1) ct):=HBX.out.cell (i:=2) (by omega);have ya1:wB.cell? ⟨yb,1,none⟩=some (.int .i64 (lo:Nat)):=HBB.out.cell (i:=1) (by omega);have ya2:wB.cell? ⟨yb,2,none⟩=some (.slice (some ⟨bto,oto,none⟩) (k1+1) cto):=HBB.out.cell (i:=2) (by omega);have lxb2:xb<wB.heap.size:=HBX.out.lt;have lyb2:yb<wB.heap.size:=HBB.out.lt;clear hB fB bB c0 c1 c2 c4 c5 c6 c8 lp lg cp y0 y1 y2 y3 lb lt a1 lxb;obtain⟨c0,c1,c2,c4,c5,c6,c8,lp,lg⟩:=KC.out wB HFB.out;obtain⟨_,_,_,tm3,_,ltm⟩:=KW.out wB HFB.out;obtain⟨_,_,_,to3,_,lto⟩:=KWo.out wB HFB.out
          have hcs:(s.worse (k1+1) m o=true∧(tO<tm∨(¬tO<tm∧tm=tO∧lo<lm)))∨(s.worse (k1+1) m o=false∧((¬tO<tm∧¬tm=tO)∨(¬tO<tm∧tm=tO∧¬lo<lm))):=by
           unfold S5.worse;rw[HTM.out,HTO.out,HLM.out,HLO.out];simp only[Bool.or_eq_true,Bool.and_eq_true,decide_eq_true_eq,Bool.or_eq_false_iff,Bool.and_eq_false_iff,decide_eq_false_iff_not];omega
          rcases hcs with⟨hw,hg|⟨hg1,hg2,hg3⟩⟩|⟨hw,⟨hg1,hg2⟩|⟨hg1,hg2,hg3⟩⟩
          .have HW:=Lib.hid hw
           have g1:decide (tO<tm)=true:=by simpa using hg
           clear hw hg;go_wp2
           go_quiet (fail)
           go_wp2
           go_roundw
           case rel=>exact⟨m+1,by omega,by go_num,by rw[HNX.out,HW.out];rfl,by repeat(first|exact HFB.out|apply Fr.drewN|apply Fr.drew)⟩
           case measure=>first|(simp[intOf];done)|(simp[intOf];omega)
          .have HW:=Lib.hid hw
           have g1:decide (tO<tm)=false:=by simpa using hg1
           subst hg2;have g2:decide (lo<lm)=true:=by simpa using hg3
           clear hw hg1 hg3;go_wp2
           go_quiet (fail)
           go_wp2
           go_roundw
           case rel=>exact⟨m+1,by omega,by go_num,by rw[HNX.out,HW.out];rfl,by repeat(first|exact HFB.out|apply Fr.drewN|apply Fr.drew)⟩
           case measure=>first|(simp[intOf];done)|(simp[intOf];omega)
          .have HW:=Lib.hid hw
           have g1:decide (tO<tm)=false:=by simpa using hg1
           have g2:((tm:Int)==(tO:Int))=false:=by simp;omega
           clear hw hg1 hg2;go_wp2
           go_quiet (fail)
           go_wp2
           go_roundw
           case rel=>exact⟨m+1,by omega,by go_num,by rw[HNX.out,HW.out];rfl,by repeat(first|exact HFB.out|apply Fr.drewN|apply Fr.drew)⟩
           case measure=>first|(simp[intOf];done)|(simp[intOf];omega)
          .have HW:=Lib.hid hw
           have g1:decide (tO<tm)=false:=by simpa using hg1
           subst hg2;have g2:decide (lo<lm)=false:=by simpa using hg3
           clear hw hg1 hg3;go_wp2
           go_quiet (fail)
           go_wp2
           go_roundw
           case rel=>exact⟨m+1,by omega,by go_num,by rw[HNX.out,HW.out];rfl,by repeat(first|exact HFB.out|apply Fr.drewN|apply Fr.drew)⟩
           case measure=>first|(simp[intOf];done)|(simp[intOf];omega)
       .have HS:Hid (s.bestF (k1+1) near false (m+1)=s.bestF (k1+1) near false m):=best_skip (by rw[hmay];simpa using hnr)
        clear hmay;have hgt:decide ((s.T:Int)+1-(lm:Int)<=(near:Int))=true:=by simp;omega
        clear hnr;go_wp2
        go_quiet (fail)
        go_wp2
        go_roundw
        case rel=>exact⟨m+1,by omega,by go_num,by rw[HS.out],by repeat(first|exact HFA.out|apply Fr.drewN|apply Fr.drew)⟩
        case measure=>first|(simp[intOf];done)|(simp[intOf];omega)
   .obtain rfl:m=n:=by omega
    clear hf;go_wp2;go_returns;exact⟨rfl,HF.out⟩
end
end
end Go.Proofs.Ytcccbdnojlmgaaa
