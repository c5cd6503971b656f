/- Part 27. -/
import Derived.Test.YtcccbdnojlmgaaaK23
namespace Go.Proofs.Ytcccbdnojlmgaaa
set_option linter.all false
set_option maxHeartbeats 16000000
set_option maxRecDepth 100000
section
open Go.RowKit
abbrev RowsF:=Nat->Option (IntKind×List Nat)
def FP(pb gb ob:Nat):Nat->Prop:=fun i=>i=pb∨i=gb∨i=ob
def DP(pb gb ob:Nat)(hc:Nat->Value)(rows:RowsF):Nat->Prop:=fun i=>FP pb gb ob i∨∃j k l,rows j=some (k,l)∧(hc j).ownBlock=some i
structure PG(w:World)(pb M gb ob n:Nat)(hc:Nat->Value)(rows:RowsF)(page:List Nat)(on:Nat->Bool):Prop where
 hd:Blk w pb M hc
 pg:Blk w gb n (uF page)
 on:Blk w ob n (bF on)
 sl:∀i k l,rows i=some (k,l)->SlK k w (hc i) l∧∀b,(hc i).ownBlock=some b->¬b=pb∧¬b=gb∧¬b=ob
 d1:¬pb=gb
 d2:¬pb=ob
 d3:¬gb=ob
 pn:page.length=n
 hn:n<1000
section
variable{w w' w0:World}{pb M gb ob n:Nat}{hc:Nat->Value}{rows:RowsF}{page:List Nat}{on:Nat->Bool}{D0:Nat->Prop}
theorem PG.fr(h:PG w pb M gb ob n hc rows page on){G:Nat->Prop}(f:Fr G w w')(hG:∀i,DP pb gb ob hc rows i->¬G i):PG w' pb M gb ob n hc rows page on:=
 ⟨h.hd.fr f (hG _ (.inl (.inl rfl))),h.pg.fr f (hG _ (.inl (.inr (.inl rfl)))),h.on.fr f (hG _ (.inl (.inr (.inr rfl)))),fun i k l e=>⟨(h.sl i k l e).1.fr f (fun b hb=>hG b (.inr ⟨i,k,l,e,hb⟩)),(h.sl i k l e).2⟩,h.d1,h.d2,h.d3,h.pn,h.hn⟩
theorem PG.fr0(h:PG w pb M gb ob n hc rows page on)(f:Fr NoF w w'):PG w' pb M gb ob n hc rows page on:=h.fr f (fun _ _ q=>q)
theorem PG.lt(h:PG w pb M gb ob n hc rows page on):∀i,DP pb gb ob hc rows i->i<w.heap.size:=by
 rintro i((rfl|rfl|rfl)|⟨j,k,l,e,hb⟩)
 .exact h.hd.lt
 .exact h.pg.lt
 .exact h.on.lt
 .exact(h.sl j k l e).1.lt i hb
theorem PG.c(h:PG w pb M gb ob n hc rows page on)(i:Nat)(hi:i<M){v:Value}(e:hc i=v):w.cell? ⟨pb,i,none⟩=some v:=e▸h.hd.cell hi
theorem PG.cp(h:PG w pb M gb ob n hc rows page on){a:Nat}(ha:a<n):w.cell? ⟨gb,a,none⟩=some (.int .u32 (page.getD a 0:Nat)):=h.pg.cell ha
theorem PG.co(h:PG w pb M gb ob n hc rows page on){a:Nat}(ha:a<n):w.cell? ⟨ob,a,none⟩=some (.bool (on a)):=h.on.cell ha
theorem PG.row(h:PG w pb M gb ob n hc rows page on){i:Nat}{k:IntKind}{l:List Nat}(e:rows i=some (k,l)):∃a c,hc i=.slice a l.length c∧l.length<=c∧c<=maxLen∧SlK k w (.slice a l.length c) l∧∀b,(Value.slice a l.length c).ownBlock=some b->¬b=pb∧¬b=gb∧¬b=ob:=by
 obtain⟨h1,h2⟩:=h.sl i k l e;obtain⟨a,c,e1,h3,h4⟩:=h1.shape;rw[e1]at h1 h2;exact⟨a,c,e1,h3,h4,h1,h2⟩
theorem PG.setOn(h:PG w pb M gb ob n hc rows page on)(a:Nat)(x:Bool):PG (w.setCell ⟨ob,a,none⟩ (.bool x)) pb M gb ob n hc rows page (upd on a x):=by
 have f:Fr (fun i=>i=ob) w (w.setCell ⟨ob,a,none⟩ (.bool x)):=(Fr.refl (fun i=>i=ob) w).setCell (p:=⟨ob,a,none⟩) (.inl rfl) _;exact⟨h.hd.fr f h.d2,h.pg.fr f h.d3,by rw[<-bF_set];exact h.on.set _ _,fun i k l e=>⟨(h.sl i k l e).1.fr f (fun b hb=>((h.sl i k l e).2 b hb).2.2),(h.sl i k l e).2⟩,h.d1,h.d2,h.d3,h.pn,h.hn⟩
theorem PG.setPage(h:PG w pb M gb ob n hc rows page on){a:Nat}(ha:a<n)(id:Nat):PG (w.setCell ⟨gb,a,none⟩ (.int .u32 id)) pb M gb ob n hc rows (page.set a id) on:=by
 have f:Fr (fun i=>i=gb) w (w.setCell ⟨gb,a,none⟩ (.int .u32 id)):=(Fr.refl (fun i=>i=gb) w).setCell (p:=⟨gb,a,none⟩) (.inl rfl) _;exact⟨h.hd.fr f h.d1,by rw[<-uF_set (by rw[h.pn];exact ha)];exact h.pg.set _ _,h.on.fr f (fun e=>h.d3 e.symm),fun i k l e=>⟨(h.sl i k l e).1.fr f (fun b hb=>((h.sl i k l e).2 b hb).2.1),(h.sl i k l e).2⟩,h.d1,h.d2,h.d3,by simp[h.pn],h.hn⟩
theorem PG.setRow(h:PG w pb M gb ob n hc rows page on)(i:Nat){k:IntKind}{l:List Nat}{v:Value}(hs:SlK k w v l)(hv:∀b,v.ownBlock=some b->¬b=pb∧¬b=gb∧¬b=ob):PG (w.setCell ⟨pb,i,none⟩ v) pb M gb ob n (upd hc i v) (upd rows i (some (k,l))) page on:=by
 have f:Fr (fun i=>i=pb) w (w.setCell ⟨pb,i,none⟩ v):=(Fr.refl (fun i=>i=pb) w).setCell (p:=⟨pb,i,none⟩) (.inl rfl) _;refine⟨h.hd.set _ _,h.pg.fr f (fun e=>h.d1 e.symm),h.on.fr f (fun e=>h.d2 e.symm),fun j q m e=>?_,h.d1,h.d2,h.d3,h.pn,h.hn⟩;by_cases ej:j=i
 .subst ej
  rw[upd_same]at e⊢;simp only[Option.some.injEq,Prod.mk.injEq]at e;obtain⟨rfl,rfl⟩:=e;exact⟨hs.fr f (fun b hb=>(hv b hb).1),hv⟩
 .rw[upd_other _ _ ej]at e⊢
  exact⟨(h.sl j q m e).1.fr f (fun b hb=>((h.sl j q m e).2 b hb).1),(h.sl j q m e).2⟩
theorem PG.setNum(h:PG w pb M gb ob n hc rows page on)(i:Nat)(hi:rows i=none)(v:Value):PG (w.setCell ⟨pb,i,none⟩ v) pb M gb ob n (upd hc i v) rows page on:=by
 have f:Fr (fun i=>i=pb) w (w.setCell ⟨pb,i,none⟩ v):=(Fr.refl (fun i=>i=pb) w).setCell (p:=⟨pb,i,none⟩) (.inl rfl) _;refine⟨h.hd.set _ _,h.pg.fr f (fun e=>h.d1 e.symm),h.on.fr f (fun e=>h.d2 e.symm),fun j q m e=>?_,h.d1,h.d2,h.d3,h.pn,h.hn⟩;have ej:¬j=i:=by rintro rfl;rw[hi]at e;cases e
 rw[upd_other _ _ ej];exact⟨(h.sl j q m e).1.fr f (fun b hb=>((h.sl j q m e).2 b hb).1),(h.sl j q m e).2⟩
structure PS(w0:World)(D0:Nat->Prop)(pb M gb ob n:Nat)(w:World)(hc:Nat->Value)(rows:RowsF)(page:List Nat)(on:Nat->Bool):Prop where
 g:PG w pb M gb ob n hc rows page on
 f:Fr (FP pb gb ob) w0 w
 d:∀j,DP pb gb ob hc rows j->D0 j∨w0.heap.size<=j
theorem PS.start(h:PG w pb M gb ob n hc rows page on):PS w (DP pb gb ob hc rows) pb M gb ob n w hc rows page on:=⟨h,Fr.refl _ _,fun j q=>.inl q⟩
theorem PS.fr0(h:PS w0 D0 pb M gb ob n w hc rows page on)(f:Fr NoF w w'):PS w0 D0 pb M gb ob n w' hc rows page on:=⟨h.g.fr0 f,h.f.trans f (fun _ q=>q.elim),h.d⟩
theorem PS.setOn(h:PS w0 D0 pb M gb ob n w hc rows page on)(a:Nat)(x:Bool):PS w0 D0 pb M gb ob n (w.setCell ⟨ob,a,none⟩ (.bool x)) hc rows page (upd on a x):=
 ⟨h.g.setOn a x,h.f.setCell (p:=⟨ob,a,none⟩) (.inl (.inr (.inr rfl))) _,h.d⟩
theorem PS.setPage(h:PS w0 D0 pb M gb ob n w hc rows page on){a:Nat}(ha:a<n)(id:Nat):PS w0 D0 pb M gb ob n (w.setCell ⟨gb,a,none⟩ (.int .u32 id)) hc rows (page.set a id) on:=
 ⟨h.g.setPage ha id,h.f.setCell (p:=⟨gb,a,none⟩) (.inl (.inr (.inl rfl))) _,h.d⟩
theorem PS.setNum(h:PS w0 D0 pb M gb ob n w hc rows page on)(i:Nat)(hi:rows i=none)(v:Value):PS w0 D0 pb M gb ob n (w.setCell ⟨pb,i,none⟩ v) (upd hc i v) rows page on:=by
 refine⟨h.g.setNum i hi v,h.f.setCell (p:=⟨pb,i,none⟩) (.inl (.inl rfl)) _,fun j q=>h.d j (q.imp id ?_)⟩;rintro⟨a,k,l,e,hb⟩;have:¬a=i:=by rintro rfl;rw[hi]at e;cases e
 rw[upd_other _ _ this]at hb;exact⟨a,k,l,e,hb⟩
theorem PS.setRow(h:PS w0 D0 pb M gb ob n w hc rows page on)(i:Nat){k:IntKind}{l:List Nat}{v:Value}(hs:SlK k w v l)(hv:∀b,v.ownBlock=some b->w0.heap.size<=b∧¬b=pb∧¬b=gb∧¬b=ob∨∃j k l,rows j=some (k,l)∧(hc j).ownBlock=some b):PS w0 D0 pb M gb ob n (w.setCell ⟨pb,i,none⟩ v) (upd hc i v) (upd rows i (some (k,l))) page on:=by
 refine⟨h.g.setRow i hs (fun b hb=>?_),h.f.setCell (p:=⟨pb,i,none⟩) (.inl (.inl rfl)) _,fun j q=>?_⟩
 .rcases hv b hb with q|⟨j,k,l,e,q⟩
  .exact q.2
  .exact(h.g.sl j k l e).2 b q
 .rcases q with q|⟨a,q,m,e,hb⟩
  .exact h.d j (.inl q)
  .by_cases ea:a=i
   .subst ea
    rw[upd_same]at hb;rcases hv j hb with q|q
    .exact .inr q.1
    .exact h.d j (.inr q)
   .rw[upd_other _ _ ea]at e hb
    exact h.d j (.inr ⟨a,q,m,e,hb⟩)
theorem PG.fresh(h:PG w pb M gb ob n hc rows page on){b:Nat}(hb:w.heap.size<=b):¬b=pb∧¬b=gb∧¬b=ob:=by
 have h1:=h.hd.lt;have h2:=h.pg.lt;have h3:=h.on.lt;exact⟨by omega,by omega,by omega⟩
theorem PS.push{wA w5 w6:World}{k:IntKind}{e:TypeId}{l:List Nat}{v5 v':Value}{x:Nat}(h:PS w0 D0 pb M gb ob n wA hc rows page on)(f5:Fr NoF wA w5)(ho5:OwK k wA.heap.size e w5 v5 l)(o:Obj)
  (hown:w6.ownsRow wA.heap.size e 1 v' (l.length+1) ((l.map fun(x:Nat)=>Value.int k (x:Int))++[Value.int k (x:Int)]))(hfr:Fr (fun b=>v5.ownBlock=some b) (w5.alloc o) w6)(i:Nat):
  (∃a c,v'=.slice a (l.length+1) c)∧PG w6 pb M gb ob n hc rows page on∧PS w0 D0 pb M gb ob n (w6.setCell ⟨pb,i,none⟩ v') (upd hc i v') (upd rows i (some (k,l++[x]))) page on:=by
 have f:Fr NoF wA w6:=(f5.alloc o).trans hfr (fun i hi=>.inr (ho5.base i hi));have h6:=h.fr0 f;have ho:OwK k wA.heap.size e w6 v' (l++[x]):=OwK.snoc hown;obtain⟨a,c,e1,_,_⟩:=ho.sl.shape;rw[List.length_append]at e1;refine⟨⟨a,c,e1⟩,h6.g,h6.setRow i ho.sl (fun b hb=>.inl ⟨Nat.le_trans h.f.size (ho.base b hb),h.g.fresh (ho.base b hb)⟩)⟩
def PRG{σ:Type}(pb M n:Nat)(Hd:σ->Nat->Nat->(Nat->Value)->Prop)(rowsOf:σ->RowsF)(pageOf:σ->List Nat)(onOf:σ->Nat->Bool):PRel σ:=fun w s F D=>
 ∃gb ob hc,PG w pb M gb ob n hc (rowsOf s) (pageOf s) (onOf s)∧Hd s gb ob hc∧(∀i,F i↔FP pb gb ob i)∧∀i,D i↔DP pb gb ob hc (rowsOf s) i
theorem PS.left{σ:Type}{Hd:σ->Nat->Nat->(Nat->Value)->Prop}{rowsOf:σ->RowsF}{pageOf:σ->List Nat}{onOf:σ->Nat->Bool}{s':σ}{F D:Nat->Prop}{hc':Nat->Value}(h:PS w (DP pb gb ob hc rows) pb M gb ob n w' hc' (rowsOf s') (pageOf s') (onOf s'))(hH:Hd s' gb ob hc')(hF:∀i,F i↔FP pb gb ob i)(hD:∀i,D i↔DP pb gb ob hc rows i):
  Left (PRG pb M n Hd rowsOf pageOf onOf) w s' F D w':=
 ⟨F,DP pb gb ob hc' (rowsOf s'),⟨gb,ob,hc',h.g,hH,hF,fun _=>Iff.rfl⟩,h.f.mono (fun i q=>(hF i).2 q),fun i q=>.inl q,fun i q=>(h.d i q).imp (fun q=>(hD i).2 q) id⟩
end
def clF(c:Cl)(sz:Nat)(g:Value):Nat->Value
 |0=>.int .i64 c.kind
 |1=>.int .i64 c.frame
 |2=>.int .u32 c.page
 |3=>.bool c.on
 |4=>.int .i64 c.want
 |5=>.int .i64 sz
 |6=>g
 |_=>.int .i64 0
theorem clF_size(c:Cl)(a b:Nat)(g:Value):upd (clF c a g) 5 (.int .i64 b)=clF c b g:=by
 funext j
 match j with
 |0=>rfl
 |1=>rfl
 |2=>rfl
 |3=>rfl
 |4=>rfl
 |5=>rfl
 |6=>rfl
 |j+7=>simp[upd,clF]
def okF(page:List Nat)(on:Nat->Bool)(k:Nat):Bool:=!decide (page.getD k 0=0)&&on k
def cntF(page:List Nat)(on:Nat->Bool)(k:Nat):Nat:=((List.range k).filter (okF page on)).length
theorem cntF_succ(page:List Nat)(on:Nat->Bool)(k:Nat):cntF page on (k+1)=cntF page on k+(if okF page on k=true then 1 else 0):=by
 unfold cntF;rw[List.range_succ,List.filter_append,List.length_append];by_cases h:okF page on k=true<;>simp[h]
theorem cntF_le(page:List Nat)(on:Nat->Bool)(k:Nat):cntF page on k<=k:=by
 have:=List.length_filter_le (okF page on) (List.range k);simpa[cntF]using this
section
variable{w w':World}{pb gb ob n:Nat}
def SeenRel(w0:World)(page:List Nat)(on:Nat->Bool)(n:Nat)(c:Cl)(i:Value)(wr:World):Prop:=
 ∃k:Nat,k<=n∧i=.int .i64 k∧Fr NoF w0 wr∧Blk wr w0.heap.size 7 (clF c (cntF page on k) (.slice none 0 0))∧Blk wr (w0.heap.size+1) 7 (clF ⟨0,0,0,false,0,0,[]⟩ 0 (.slice none 0 0))
theorem seen_gen{hc:Nat->Value}{rows:RowsF}{page:List Nat}{on:Nat->Bool}{M:Nat}{gh:List Nat}(h:PG w pb M gb ob n hc rows page on)(hM:8<=M+4)(i0:hc 0=.int .i64 n)(i1:hc 4=.slice (some ⟨gb,0,none⟩) n n)(i2:hc 5=.slice (some ⟨ob,0,none⟩) n n)(hIM:4<M∧5<M)
  (hG:∀wr,Fr NoF w wr->Calls Try.prog 41 #[.pointer (some ⟨pb,0,none⟩)] wr fun e w'=>∃gv,e=.returned gv∧SlK .u32 w' gv gh∧(∀b,gv.ownBlock=some b->(DP pb gb ob hc rows b∧¬FP pb gb ob b)∨wr.heap.size<=b)∧Fr NoF wr w')
  (c:Cl)(h0:c.size=0)(hg:c.ghosts=[]):Calls Try.prog 21 #[.pointer (some ⟨pb,0,none⟩),.agg (clCells c (.slice none 0 0)).toArray] w fun e w'=>
  ∃gv,e=.returned (.agg (clCells {c with size:=cntF page on n,ghosts:=gh} gv).toArray)∧SlK .u32 w' gv gh∧(∀b,gv.ownBlock=some b->(DP pb gb ob hc rows b∧¬FP pb gb ob b)∨w.heap.size<=b)∧Fr NoF w w':=by
 obtain⟨kind,frame,page0,on0,want,size,ghosts⟩:=c;simp only at h0 hg;subst h0 hg;have lg:=h.pg.lt;have lo:=h.on.lt;have lp:=h.hd.lt;have hn:=h.hn;have HH:=Lib.hid h;have HHC:=Lib.hid (And.intro i0 (And.intro i1 i2));have HGH:=Lib.hid hG;have HDL:=Lib.hid h.lt
 have key:Calls Try.prog 21 #[.pointer (some ⟨pb,0,none⟩),.agg #[.int .i64 kind,.int .i64 frame,.int .u32 page0,.bool on0,.int .i64 want,.int .i64 0,.slice none 0 0]] w fun e w'=>
   ∃gv,e=.returned (.agg #[.int .i64 kind,.int .i64 frame,.int .u32 page0,.bool on0,.int .i64 want,.int .i64 (cntF page on n:Nat),gv])∧SlK .u32 w' gv gh∧(∀b,gv.ownBlock=some b->(DP pb gb ob hc rows b∧¬FP pb gb ob b)∨w.heap.size<=b)∧Fr NoF w w':=by
  clear h hG i0 i1 i2;go_enter Try.func21,Try.ntmps21;go_wp2
  have hst:SeenRel w page on n ⟨kind,frame,page0,on0,want,0,[]⟩ (.int .i64 0) ((w.alloc (.cells #[.int .i64 kind,.int .i64 frame,.int .u32 page0,.bool on0,.int .i64 want,.int .i64 0,.slice none 0 0] 38)).alloc (.cells #[.int .i64 0,.int .i64 0,.int .u32 0,.bool false,.int .i64 0,.int .i64 0,.slice none 0 0] 38)):=by
   refine⟨0,Nat.zero_le _,rfl,((Fr.refl _ _).alloc _).alloc _,?_,?_⟩
   .refine(Blk.new _ _ _ 7 _ _ rfl rfl (fun i hi=>?_)).alloc _
    match i,hi with
    |0,_=>rfl
    |1,_=>rfl
    |2,_=>rfl
    |3,_=>rfl
    |4,_=>rfl
    |5,_=>rfl
    |6,_=>rfl
   .refine Blk.new _ _ _ 7 _ _ (by simp) rfl (fun i hi=>?_)
    match i,hi with
    |0,_=>rfl
    |1,_=>rfl
    |2,_=>rfl
    |3,_=>rfl
    |4,_=>rfl
    |5,_=>rfl
    |6,_=>rfl
  have HST:=Lib.hid hst;clear hst
  go_loopw [5] (SeenRel w page on n ⟨kind,frame,page0,on0,want,0,[]⟩) (fun i _=>n-(intOf i).toNat)
  case atStart=>exact HST.out
  case round=>
   obtain⟨k,hk,rfl,hf,hb,hr⟩:=hrel;have hP:=HH.out.fr0 hf;have c0:wr.cell? ⟨pb,0,none⟩=some (.int .i64 n):=hP.c 0 (by omega) HHC.out.1;have hsz:=hf.size;have HF:=Lib.hid hf;have HB:=Lib.hid hb;have HR:=Lib.hid hr;have HPW:=Lib.hid hP;clear hf hP HST;by_cases hlt:k<n
   .have c1:wr.cell? ⟨pb,4,none⟩=some (.slice (some ⟨gb,0,none⟩) n n):=HPW.out.c 4 hIM.1 HHC.out.2.1
    have c2:wr.cell? ⟨pb,5,none⟩=some (.slice (some ⟨ob,0,none⟩) n n):=HPW.out.c 5 hIM.2 HHC.out.2.2;have cp:=HPW.out.cp hlt;have co:=HPW.out.co hlt;have b5:wr.cell? ⟨w.heap.size,5,none⟩=some (.int .i64 (cntF page on k:Nat)):=HB.out.cell (i:=5) (by omega);have fb:wr.frozen? ⟨w.heap.size,5,none⟩=false:=HB.out.frozen 5;have hsu:=cntF_succ page on k;have hle:=cntF_le page on k
    have HSTEP:Hid (∀z,z=cntF page on (k+1)->Blk (wr.setCell ⟨w.heap.size,5,none⟩ (.int .i64 (z:Nat))) w.heap.size 7 (clF ⟨kind,frame,page0,on0,want,0,[]⟩ (cntF page on (k+1)) (.slice none 0 0))∧Blk (wr.setCell ⟨w.heap.size,5,none⟩ (.int .i64 (z:Nat))) (w.heap.size+1) 7 (clF ⟨0,0,0,false,0,0,[]⟩ 0 (.slice none 0 0))):=by
     rintro z rfl;exact⟨by rw[<-clF_size _ (cntF page on k)];exact HB.out.set _ _,HR.out.other (by show¬w.heap.size+1=w.heap.size;omega) _⟩
    by_cases hz:page.getD k 0=0
    .rw[hz]at cp
     have ho:okF page on k=false:=by unfold okF;rw[hz];simp
     rw[ho]at hsu;have HSU:=Lib.hid hsu
     replace cp:wr.cell? ⟨gb,k,none⟩=some (.int .u32 0):=cp
     clear hsu ho hz hb hr;generalize on k=z1 at co;go_wp2
     go_roundw
     case rel=>exact⟨k+1,by omega,by go_num,HF.out,by rw[HSU.out];exact HB.out,HR.out⟩
     case measure=>first|(simp[intOf];done)|(simp[intOf];omega)
    .have b1:(((page.getD k 0:Nat):Int) !=0)=true:=by simp;simpa using hz
     cases hon:on k with
     |false=>
      rw[hon]at co;have ho:okF page on k=false:=by unfold okF;rw[hon];simp
      rw[ho]at hsu;have HSU:=Lib.hid hsu;generalize page.getD k 0=z2 at cp b1;clear hsu ho hz hb hr hon;go_wp2
      go_roundw
      case rel=>exact⟨k+1,by omega,by go_num,HF.out,by rw[HSU.out];exact HB.out,HR.out⟩
      case measure=>first|(simp[intOf];done)|(simp[intOf];omega)
     |true=>
      rw[hon]at co;have ho:okF page on k=true:=by unfold okF;rw[hon];simp;simpa using hz
      rw[ho]at hsu;simp only[if_true]at hsu;have HSU:=Lib.hid hsu;generalize page.getD k 0=z2 at cp b1;clear hsu ho hz hb hr hon;have lw:w.heap.size<wr.heap.size:=HB.out.lt;go_wp2
      go_roundw
      case rel=>
       have q:=HSTEP.out (cntF page on k+1) (by rw[HSU.out]);exact⟨k+1,by omega,by go_num,HF.out.setCell (p:=⟨w.heap.size,5,none⟩) (.inr (Nat.le_refl _)) _,q.1,q.2⟩
      case measure=>first|(simp[intOf];done)|(simp[intOf];omega)
   .obtain rfl:k=n:=by omega
    have lw:w.heap.size+1<wr.heap.size:=HR.out.lt;have HGW:=Lib.hid (HGH.out wr HF.out);clear hb hr
    go_wp2_with fail
    refine HGW.out.mono ?_;clear HGW;rintro e w2⟨gv,rfl,hgs,hgb,hf2⟩;have hB:=HB.out.fr hf2 id;have hR:=HR.out.fr hf2 id;have lw2:w.heap.size+1<w2.heap.size:=Nat.lt_of_lt_of_le lw hf2.size;have e0:w2.cell? ⟨w.heap.size,0,none⟩=some (.int .i64 kind):=hB.cell (i:=0) (by omega);have e1:w2.cell? ⟨w.heap.size,1,none⟩=some (.int .i64 frame):=hB.cell (i:=1) (by omega);have e2:w2.cell? ⟨w.heap.size,2,none⟩=some (.int .u32 page0):=hB.cell (i:=2) (by omega);have e3:w2.cell? ⟨w.heap.size,3,none⟩=some (.bool on0):=hB.cell (i:=3) (by omega);have e4:w2.cell? ⟨w.heap.size,4,none⟩=some (.int .i64 want):=hB.cell (i:=4) (by omega);have e5:w2.cell? ⟨w.heap.size,5,none⟩=some (.int .i64 (cntF page on k:Nat)):=hB.cell (i:=5) (by omega);have e6:w2.cell? ⟨w.heap.size,6,none⟩=some (.slice none 0 0):=hB.cell (i:=6) (by omega);have f0:∀i,w2.frozen? ⟨w.heap.size,i,none⟩=false:=hB.frozen;have f1:∀i,w2.frozen? ⟨w.heap.size+1,i,none⟩=false:=hR.frozen;have r0:w2.cell? ⟨w.heap.size+1,0,none⟩=some (.int .i64 0):=hR.cell (i:=0) (by omega);have r1:w2.cell? ⟨w.heap.size+1,1,none⟩=some (.int .i64 0):=hR.cell (i:=1) (by omega);have r2:w2.cell? ⟨w.heap.size+1,2,none⟩=some (.int .u32 0):=hR.cell (i:=2) (by omega);have r3:w2.cell? ⟨w.heap.size+1,3,none⟩=some (.bool false):=hR.cell (i:=3) (by omega);have r4:w2.cell? ⟨w.heap.size+1,4,none⟩=some (.int .i64 0):=hR.cell (i:=4) (by omega);have r5:w2.cell? ⟨w.heap.size+1,5,none⟩=some (.int .i64 0):=hR.cell (i:=5) (by omega);have r6:w2.cell? ⟨w.heap.size+1,6,none⟩=some (.slice none 0 0):=hR.cell (i:=6) (by omega)
    have hgn:∀b,gv.ownBlock=some b->¬(b=w.heap.size∨b=w.heap.size+1):=fun b q=>by
     rcases hgb b q with⟨q,_⟩|q
     .have:=HDL.out b q;omega
     .omega
    have HGS:=Lib.hid (And.intro hgs (And.intro hgb hgn));have HF2:=Lib.hid (HF.out.trans hf2 (fun _ q=>q.elim));obtain⟨ga,gc,rfl,_,_⟩:=hgs.shape;clear hB hR hgs hgb hgn hf2;generalize hz:cntF page on k=z at*;have HZ:=Lib.hid hz;clear hz;go_wp2
    have hX:∀(G:World),Fr (fun i=>i=w.heap.size∨i=w.heap.size+1) w2 G->(SlK .u32 G (.slice ga gh.length gc) gh∧(∀b,(Value.slice ga gh.length gc).ownBlock=some b->(DP pb gb ob hc rows b∧¬FP pb gb ob b)∨w.heap.size<=b)∧Fr NoF w G):=fun G f=>
     ⟨HGS.out.1.fr f HGS.out.2.2,fun b q=>(HGS.out.2.1 b q).imp id (fun q=>Nat.le_trans HF.out.size q),HF2.out.trans f (fun i q=>.inr (by omega))⟩
    refine bodyPost_ret (v:=.agg #[.int .i64 kind,.int .i64 frame,.int .u32 page0,.bool on0,.int .i64 want,.int .i64 (z:Nat),.slice ga gh.length gc]) (by simp[results,Try.results21,go_sem,r0,r1,r2,r3,r4,r5,r6]) rfl ⟨_,by rw[HZ.out],hX _ ?_⟩;exact((((((((Fr.refl _ w2).setCell (p:=⟨w.heap.size,6,none⟩) (.inl (.inl rfl)) _).setCell (p:=⟨w.heap.size+1,0,none⟩) (.inl (.inr rfl)) _).setCell (p:=⟨w.heap.size+1,1,none⟩) (.inl (.inr rfl)) _).setCell (p:=⟨w.heap.size+1,2,none⟩) (.inl (.inr rfl)) _).setCell (p:=⟨w.heap.size+1,3,none⟩) (.inl (.inr rfl)) _).setCell (p:=⟨w.heap.size+1,4,none⟩) (.inl (.inr rfl)) _).setCell (p:=⟨w.heap.size+1,5,none⟩) (.inl (.inr rfl)) _).setCell (p:=⟨w.heap.size+1,6,none⟩) (.inl (.inr rfl)) _
 exact key.mono fun e w' ⟨gv,he,hs,hb,hf⟩=>⟨gv,he,hs,hb,hf⟩
end
theorem getD_setA{fr:List Nat}{a x f:Nat}(ha:a<fr.length):(fr.set a x).getD f 0=if f=a then x else fr.getD f 0:=by
 by_cases e:f=a
 .subst e;simp[ha]
 .rw[if_neg e]
  simp[show¬a=f from fun q=>e q.symm]
end
end Go.Proofs.Ytcccbdnojlmgaaa
