/- Part 21. -/
import Derived.Test.YtoenclhimbpfeaaGreatDoorC20
import Derived.Test.YtoenclhimbpfeaaGreatDoorC16
namespace Go.Proofs.YtoenclhimbpfeaaGreatDoor
set_option linter.all false
set_option maxHeartbeats 16000000
set_option maxRecDepth 100000
section
open Go.Proofs.Tryz Go.RowKit
def lruH(rb eb n sz:Nat):Nat->Value
 |0=>.pointer (some ⟨rb,0,none⟩)
 |1=>.slice (some ⟨eb,0,none⟩) n n
 |2=>.int .i64 sz
 |_=>.int .i64 0
structure LCu(w:World)(b rb eb n:Nat)(l:List Nat)(ev:Nat->Bool)(FR:Nat->Prop):Prop where
 hd:Blk w b 3 (lruH rb eb n (cntL l ev))
 be:Blk w eb n (bF ev)
 rr:RR w rb n 1 [l] FR
 d1:¬b=eb
 d2:¬FR b
 d3:¬FR eb
 out:∀f,ev f=true->f∈l
 hn:n<=65535
def LRu(w:World)(b n:Nat)(l:List Nat)(ev:Nat->Bool)(F:Nat->Prop):Prop:=
 ∃rb eb FR,LCu w b rb eb n l ev FR∧∀i,F i↔i=b∨i=eb∨FR i
theorem RR.row0{w:World}{b n:Nat}{l:List Nat}{F:Nat->Prop}(h:RR w b n 1 [l] F):l.Nodup∧∀x∈l,x<n:=by
 obtain⟨nb,lb,rw,nx,pv,ls,hc,hi,hF⟩:=h.ex;exact⟨hi.nd 0 l rfl,fun x hx=>(hi.mem 0 l rfl x hx).1⟩
theorem LCu.fr{w w':World}{b rb eb n:Nat}{l:List Nat}{ev:Nat->Bool}{FR G:Nat->Prop}(h:LCu w b rb eb n l ev FR)(f:Fr G w w')(h1:¬G b)(h2:¬G eb)(h3:∀i,FR i->¬G i):LCu w' b rb eb n l ev FR:=
 ⟨h.hd.fr f h1,h.be.fr f h2,h.rr.fr f h3,h.d1,h.d2,h.d3,h.out,h.hn⟩
theorem LRu.fr{w w':World}{b n:Nat}{l:List Nat}{ev:Nat->Bool}{F G:Nat->Prop}(h:LRu w b n l ev F)(f:Fr G w w')(hd:∀i,F i->¬G i):LRu w' b n l ev F:=by
 obtain⟨rb,eb,FR,hc,hF⟩:=h;exact⟨rb,eb,FR,hc.fr f (hd b ((hF b).2 (.inl rfl))) (hd eb ((hF eb).2 (.inr (.inl rfl)))) (fun i hi=>hd i ((hF i).2 (.inr (.inr hi)))),hF⟩
theorem LRu.lt{w:World}{b n:Nat}{l:List Nat}{ev:Nat->Bool}{F:Nat->Prop}(h:LRu w b n l ev F):∀i,F i->i<w.heap.size:=by
 obtain⟨rb,eb,FR,hc,hF⟩:=h;intro i hi;rcases(hF i).1 hi with rfl|rfl|q
 .exact hc.hd.lt
 .exact hc.be.lt
 .exact hc.rr.lt i q
theorem rowIx1(l:List Nat)(x:Nat):rowIx [l] x=if x∈l then some 0 else none:=by
 by_cases h:x∈l<;>simp[rowIx,List.findIdx?_cons,h]
theorem outL1(l:List Nat)(x:Nat):outL [l] x=[awayL l x]:=by
 by_cases h:x∈l
 .simp[outL,rowIx1,h,awayL]
 .simp only[outL,rowIx1,if_neg h,awayL,filter_not h]
theorem putL1(l:List Nat)(x:Nat):putL [l] 0 x false=[backL l x]:=by
 simp[putL,outL1,backL]
theorem RR.len0{w:World}{b n:Nat}{l:List Nat}{F:Nat->Prop}(h:RR w b n 1 [l] F):l.length<=n:=by
 have:=List.Nodup.length_le_of_subset (l₁:=l) (l₂:=List.range n) h.row0.1 (fun y hy=>List.mem_range.2 (h.row0.2 y hy));simpa using this
section
variable{w:World}{b rb eb n:Nat}{l:List Nat}{ev:Nat->Bool}{F FR:Nat->Prop}
theorem LCu.c0(h:LCu w b rb eb n l ev FR):w.cell? ⟨b,0,none⟩=some (.pointer (some ⟨rb,0,none⟩)):=h.hd.cell (by omega)
theorem LCu.c1(h:LCu w b rb eb n l ev FR):w.cell? ⟨b,1,none⟩=some (.slice (some ⟨eb,0,none⟩) n n):=h.hd.cell (by omega)
theorem LCu.c2(h:LCu w b rb eb n l ev FR):w.cell? ⟨b,2,none⟩=some (.int .i64 (cntL l ev:Nat)):=h.hd.cell (by omega)
theorem LCu.ce(h:LCu w b rb eb n l ev FR){f:Nat}(hf:f<n):w.cell? ⟨eb,f,none⟩=some (.bool (ev f)):=h.be.cell hf
theorem lru_miss(a:Option Addr)(p:Int):Calls prog 167 #[.pointer a,.int .u32 p] w fun e w'=>e=.returned (.tuple #[])∧w=w':=by
 go_enter func167,ntmps167;go_wp2
 go_end0
 exact⟨rfl,rfl⟩
theorem lru_size(h:LCu w b rb eb n l ev FR):Calls prog 170 #[.pointer (some ⟨b,0,none⟩)] w fun e w'=>e=.returned (.int .i64 (cntL l ev:Nat))∧w=w':=by
 have c2:=h.c2;go_enter func170,ntmps170;go_wp2
 go_ret
 exact⟨rfl,rfl⟩
end
section
variable{w:World}{b rb eb n:Nat}{l:List Nat}{ev:Nat->Bool}{F FR:Nat->Prop}
theorem lru_has(h:LCu w b rb eb n l ev FR)(f:Nat):Calls prog 172 #[.pointer (some ⟨b,0,none⟩),.int .i64 f] w fun e w'=>e=.returned (.bool (decide (f∈l)))∧w=w':=by
 have c0:=h.c0;have HI:=In_all h.rr f;rw[ixZ_nat,rowIx1]at HI;by_cases hm:f∈l
 .rw[if_pos hm]at HI
  have H:=Hd HI;have HD:Hid (decide (f∈l)=true):=by simp[Hid,hm]
  simp only[ixI]at H;rw[HD.out];clear HI hm HD;go_enter func172,ntmps172
  go_wp2_with(go_at_call 112;refine H.out.mono ?_;rintro e w'⟨rfl,rfl⟩)
  go_ret
  exact⟨rfl,rfl⟩
 .rw[if_neg hm]at HI
  have H:=Hd HI;have HD:Hid (decide (f∈l)=false):=by simp[Hid,hm]
  simp only[ixI]at H;rw[HD.out];clear HI hm HD;go_enter func172,ntmps172
  go_wp2_with(go_at_call 112;refine H.out.mono ?_;rintro e w'⟨rfl,rfl⟩)
  go_ret
  exact⟨rfl,rfl⟩
theorem lru_access(h:LRu w b n l ev F)(f:Nat)(hf:f<n)(p:Int):
  Calls prog 165 #[.pointer (some ⟨b,0,none⟩),.int .i64 f,.int .u32 p] w fun e w'=>e=.returned (.tuple #[])∧LRu w' b n (backL l f) ev F∧Fr F w w':=by
 obtain⟨rb,eb,FR,hc,hF⟩:=h;have c0:=hc.c0;have HB:=Hd (back_yes hc.rr 0 f (by omega) hf);have HF:=Hd hF;clear hF;go_enter func165,ntmps165
 go_wp2_with fail
 refine HB.out.mono ?_;clear HB;rintro e w'⟨rfl,hR,f1⟩;rw[putL1]at hR
 have key:LRu w' b n (backL l f) ev F:=by
  refine⟨rb,eb,FR,⟨?_,hc.be.fr f1 hc.d3,hR,hc.d1,hc.d2,hc.d3,fun g hg=>mem_back.2 (.inl (hc.out g hg)),hc.hn⟩,HF.out⟩;rw[cnt_back hc.rr.row0.1 ev f (hc.out f)];exact hc.hd.fr f1 hc.d2
 have hf1:Fr F w w':=f1.mono (fun i q=>(HF.out i).2 (.inr (.inr q)));clear hR f1;go_wp2
 go_end0
 exact⟨rfl,key,hf1⟩
theorem lruH_sz(rb eb n s z:Nat):upd (lruH rb eb n s) 2 (.int .i64 z)=lruH rb eb n z:=by
 funext j
 match j with
 |0=>rfl
 |1=>rfl
 |2=>rfl
 |j+3=>simp[upd,lruH]
def setL(l:List Nat)(ev:Nat->Bool)(f:Nat)(v:Bool):Nat->Bool:=if f∈l then upd ev f v else ev
theorem LCu.set(h:LCu w b rb eb n l ev FR){f:Nat}(hm:f∈l)(v:Bool){z:Nat}(hz:z=cntL l (upd ev f v)):
  LCu ((w.setCell ⟨eb,f,none⟩ (.bool v)).setCell ⟨b,2,none⟩ (.int .i64 z)) b rb eb n l (upd ev f v) FR:=by
 subst hz
 have hR:RR ((w.setCell ⟨eb,f,none⟩ (.bool v)).setCell ⟨b,2,none⟩ (.int .i64 (cntL l (upd ev f v):Nat))) rb n 1 [l] FR:=by
  refine h.rr.fr (G:=fun i=>i=b∨i=eb) (((Fr.refl _ _).setCell (.inl (.inr rfl)) _).setCell (.inl (.inl rfl)) _) ?_;intro i hi q;rcases q with rfl|rfl
  .exact h.d2 hi
  .exact h.d3 hi
 refine⟨?_,?_,hR,h.d1,h.d2,h.d3,?_,h.hn⟩
 .rw[<-lruH_sz rb eb n (cntL l ev)]
  exact(h.hd.other h.d1 _).set _ _
 .rw[<-bF_set]
  exact(h.be.set _ _).other (fun e=>h.d1 e.symm) _
 .intro g hg
  by_cases e:g=f
  .rw[e];exact hm
  .rw[upd_other _ _ e]at hg;exact h.out g hg
theorem lru_set(h:LRu w b n l ev F)(f:Nat)(hf:f<n)(v:Bool):
  Calls prog 169 #[.pointer (some ⟨b,0,none⟩),.int .i64 f,.bool v] w fun e w'=>e=.returned (.tuple #[])∧LRu w' b n l (setL l ev f v) F∧Fr F w w':=by
 obtain⟨rb,eb,FR,hc,hF⟩:=h;have HF:=Hd hF;have HH:=lru_has hc f;have hn:=hc.hn;have hcl:=cnt_le l ev;have hln:=hc.rr.len0;clear hF;by_cases hm:f∈l
 .have c1:=hc.c1
  have c2:=hc.c2;have ce:=hc.ce hf;have fe:∀i,w.frozen? ⟨eb,i,none⟩=false:=fun i=>hc.be.frozen i
  have fb:w.frozen? ⟨b,2,none⟩=false:=hc.hd.frozen 2;have le:=hc.be.lt;have lb:=hc.hd.lt;have hd1:=hc.d1;have hd1':¬eb=b:=fun e=>hd1 e.symm
  have hcu:=cnt_upd hc.rr.row0.1 ev f v hm;have HC:∀z,z=cntL l (upd ev f v)->LCu ((w.setCell ⟨eb,f,none⟩ (.bool v)).setCell ⟨b,2,none⟩ (.int .i64 z)) b rb eb n l (upd ev f v) FR:=fun z hz=>hc.set hm v hz
  have HC':=Hd HC;rw[show decide (f∈l)=true from by simp[hm]]at HH;have H:=Hd HH;have HS:Hid (setL l ev f v=upd ev f v):=by simp[Hid,setL,hm]
  have HU:Hid (ev f=v->upd ev f v=ev):=by
   intro e;funext j;unfold upd;split
   .subst j;exact e.symm
   .rfl
  have HLR:Hid (LCu w b rb eb n l ev FR):=hc
  have hfr:∀z,Fr F w ((w.setCell ⟨eb,f,none⟩ (.bool v)).setCell ⟨b,2,none⟩ (.int .i64 z)):=fun z=>
   ((Fr.refl F w).setCell (.inl ((HF.out eb).2 (.inr (.inl rfl)))) _).setCell (.inl ((HF.out b).2 (.inl rfl))) _
  have HFR:=Hd hfr;clear hc HH hm HC hfr;rw[HS.out];clear HS;generalize hev:ev f=x at*;have HE:=Hd hev;clear hev
  cases x<;>cases v
  .have hu:=HU.out rfl
   rw[hu];clear hu HU hcu;go_enter func169,ntmps169
   go_wp2_with(go_at_call 172;refine H.out.mono ?_;rintro e w'⟨rfl,rfl⟩)
   go_returns;exact⟨rfl,⟨rb,eb,FR,HLR.out,HF.out⟩,Fr.refl _ _⟩
  .simp at hcu
   have HCU:=Hd hcu;clear hcu;go_enter func169,ntmps169
   go_wp2_with(go_at_call 172;refine H.out.mono ?_;rintro e w'⟨rfl,rfl⟩)
   go_returns;have e1:(((cntL l ev:Nat):Int)+1)=((cntL l ev+1:Nat):Int):=by omega
   rw[e1];exact⟨rfl,⟨rb,eb,FR,HC'.out _ (by have:=HCU.out;omega),HF.out⟩,HFR.out _⟩
  .simp at hcu
   have h1:1<=((cntL l ev:Nat):Int):=by omega
   have HCU:=Hd hcu;clear hcu;go_enter func169,ntmps169
   go_wp2_with(go_at_call 172;refine H.out.mono ?_;rintro e w'⟨rfl,rfl⟩)
   go_returns;have e1:(((cntL l ev:Nat):Int)-1)=((cntL l ev-1:Nat):Int):=by omega
   rw[e1];exact⟨rfl,⟨rb,eb,FR,HC'.out _ (by have:=HCU.out;omega),HF.out⟩,HFR.out _⟩
  .have hu:=HU.out rfl
   rw[hu];clear hu HU hcu;go_enter func169,ntmps169
   go_wp2_with(go_at_call 172;refine H.out.mono ?_;rintro e w'⟨rfl,rfl⟩)
   go_returns;exact⟨rfl,⟨rb,eb,FR,HLR.out,HF.out⟩,Fr.refl _ _⟩
 .rw[show decide (f∈l)=false from by simp[hm]]at HH
  have H:=Hd HH;rw[show setL l ev f v=ev from by simp[setL,hm]];have HLR:Hid (LCu w b rb eb n l ev FR):=hc;clear hc HH hm;go_enter func169,ntmps169
  go_wp2_with(go_at_call 172;refine H.out.mono ?_;rintro e w'⟨rfl,rfl⟩)
  go_returns;exact⟨rfl,⟨rb,eb,FR,HLR.out,HF.out⟩,Fr.refl _ _⟩
end
section
variable{w:World}{b rb eb n:Nat}{l:List Nat}{ev:Nat->Bool}{F FR:Nat->Prop}
theorem lru_remove(h:LRu w b n l ev F)(f:Nat)(hf:f<n):
  Calls prog 168 #[.pointer (some ⟨b,0,none⟩),.int .i64 f] w fun e w'=>e=.returned (.tuple #[])∧LRu w' b n (awayL l f) (setL l ev f false) F∧Fr F w w':=by
 have HS:=Hd (lru_set h f hf false);obtain⟨rb,eb,FR,hc,hF⟩:=h;have hF0:=Hd hF;have HH:=lru_has hc f;by_cases hm:f∈l
 .rw[show decide (f∈l)=true from by simp[hm]]at HH
  have H:=Hd HH;have HM:=Hd hm;clear HH hm hF hc;go_enter func168,ntmps168
  go_wp2_with(go_at_call 172;refine H.out.mono ?_;rintro e w'⟨rfl,rfl⟩)
  refine HS.out.mono ?_;clear HS;rintro e w1⟨rfl,⟨rb1,eb1,FR1,hc1,hF1⟩,f1⟩;have HF1:=Hd hF1;have c0:=hc1.c0;have HO:=Hd (Out_all hc1.rr f);have HC1:=Hd hc1;have HF:=Hd f1;clear hF1 hc1 f1
  go_wp2_with fail
  refine HO.out.mono ?_;clear HO;rintro e w2⟨rfl,hR,f2⟩
  have hR':RR w2 rb1 n 1 [awayL l f] FR1:=by
   have:outZ [l] (f:Int)=[awayL l f]:=by rw[outZ,if_pos (by omega)];exact outL1 l f
   rw[this]at hR;exact hR
  have hs:setL l ev f false=upd ev f false:=by simp[setL,HM.out]
  have key:LRu w2 b n (awayL l f) (setL l ev f false) F:=by
   have hc1:=HC1.out;refine⟨rb1,eb1,FR1,⟨?_,hc1.be.fr f2 hc1.d3,hR',hc1.d1,hc1.d2,hc1.d3,fun g hg=>?_,hc1.hn⟩,HF1.out⟩
   .have h1:=cnt_away hc1.rr.row0.1 (setL l ev f false) f
    rw[if_neg (by rw[hs,upd_same];simp)]at h1;rw[show cntL (awayL l f) (setL l ev f false)=cntL l (setL l ev f false)from by omega];exact hc1.hd.fr f2 hc1.d2
   .refine mem_away.2 ⟨hc1.out g hg,fun e=>?_⟩
    rw[hs,e,upd_same]at hg;cases hg
  have hfr:Fr F w w2:=HF.out.trans f2 (fun i q=>.inl ((HF1.out i).2 (.inr (.inr q))));clear hR hR' f2 hs;go_wp2;go_returns;exact⟨rfl,key,hfr⟩
 .rw[show decide (f∈l)=false from by simp[hm]]at HH
  have H:=Hd HH;have hs:setL l ev f false=ev:=by simp[setL,hm]
  have ha:awayL l f=l:=filter_not hm;rw[hs,ha];have HC:=Hd hc;clear HH hm hF hs ha hc;go_enter func168,ntmps168
  go_wp2_with(go_at_call 172;refine H.out.mono ?_;rintro e w'⟨rfl,rfl⟩)
  go_returns;exact⟨rfl,⟨rb,eb,FR,HC.out,hF0.out⟩,Fr.refl _ _⟩
def firstL(l:List Nat)(ev:Nat->Bool):Option Nat:=l.find? ev
theorem firstL_none{l:List Nat}{ev:Nat->Bool}(h:cntL l ev=0):firstL l ev=none:=by
 unfold firstL cntL at*;rw[List.find?_eq_none];intro x hx hev;have:x∈l.filter ev:=List.mem_filter.2 ⟨hx,hev⟩;rw[List.eq_nil_of_length_eq_zero h]at this
 cases this
theorem firstL_some{l:List Nat}{ev:Nat->Bool}(h:0<cntL l ev):∃(f j:Nat),firstL l ev=some f∧l[j]?=some f∧ev f=true∧∀(i g:Nat),i<j->l[i]?=some g->ev g=false:=by
 unfold firstL cntL at*;obtain⟨x,hx⟩:=List.exists_mem_of_length_pos h;obtain⟨hx1,hx2⟩:=List.mem_filter.1 hx;obtain⟨f,hf⟩:=Option.isSome_iff_exists.1 (List.find?_isSome.2 ⟨x,hx1,hx2⟩);obtain⟨he,j,hj,hjf,hb⟩:=List.find?_eq_some_iff_getElem.1 hf;refine⟨f,j,hf,by rw[List.getElem?_eq_getElem hj,hjf],he,fun i g hi hg=>?_⟩;have:=hb i hi;rw[List.getElem?_eq_getElem (by omega)]at hg;have e:=Option.some.inj hg;rw[e]at this;simpa using this
theorem lru_victim_no(h:LRu w b n l ev F)(p:Int)(h0:cntL l ev=0):
  Calls prog 171 #[.pointer (some ⟨b,0,none⟩),.int .u32 p] w fun e w'=>e=.returned (.tuple #[.int .i64 0,.bool false])∧w=w':=by
 obtain⟨rb,eb,FR,hc,hF⟩:=h;have HZ:=lru_size hc;rw[h0]at HZ;have H:=Hd HZ;clear HZ h0 hF hc;go_enter func171,ntmps171
 go_wp2_with(go_at_call 170;refine H.out.mono ?_;rintro e w'⟨rfl,rfl⟩)
 go_returns;exact⟨rfl,rfl⟩
theorem lru_victim_yes(h:LRu w b n l ev F)(p:Int)(f:Nat)(h0:firstL l ev=some f):
  Calls prog 171 #[.pointer (some ⟨b,0,none⟩),.int .u32 p] w fun e w'=>e=.returned (.tuple #[.int .i64 f,.bool true])∧LRu w' b n (awayL l f) (setL l ev f false) F∧Fr F w w':=by
 have HLR:=Hd h;obtain⟨rb,eb,FR,hc,hF⟩:=h
 have hcnt:0<cntL l ev:=by
  rcases Nat.eq_zero_or_pos (cntL l ev)with q|q
  .rw[firstL_none q]at h0;cases h0
  .exact q
 obtain⟨f',j,e1,hj,hev,hbef⟩:=firstL_some hcnt;rw[h0]at e1;obtain rfl:=Option.some.inj e1;have hjl:j<l.length:=(List.getElem?_eq_some_iff.1 hj).1;have hln:=hc.rr.len0;have hn:=hc.hn;have hcl:=cnt_le l ev;have hfn:f<n:=hc.rr.row0.2 f (List.mem_of_getElem? hj);have HZ:=Hd (lru_size hc);have HFI:=First_all hc.rr 0;rw[show rowZ [l] 0=l from rfl,List.head?_eq_getElem?]at HFI;have HF1:=Hd HFI
 have HNX:Hid (∀(i x:Nat) (d:Nat),l[i]?=some x->Calls prog 174 #[.pointer (some ⟨rb,0,none⟩),.int .i64 x] (w.drewN d) fun e w'=>e=.returned (.int .i64 (ixI l[i+1]?))∧w.drewN d=w'):=by
  intro i x d hi;have hR:=hc.rr.fr ((Fr.refl NoF w).drewN d) (fun _ _ q=>q);have:=(rowZ_facts hR 0).2 i x (by simpa[rowZ]using hi);rw[show rowZ [l] 0=l from rfl]at this;rw[<-this];exact Next_all hR x
 have c0:=hc.c0;have c1:=hc.c1
 have HCE:Hid (∀i x,i<=j->l[i]?=some x->x<n∧w.cell? ⟨eb,x,none⟩=some (.bool (ev x))):=fun i x hi hx=>by
  have hxn:=hc.rr.row0.2 x (List.mem_of_getElem? hx);exact⟨hxn,hc.ce hxn⟩
 have HB:=Hd hbef;have HJ:=Hd hj;have HE:=Hd hev;have hcnt':((cntL l ev:Nat):Int)≠0:=by omega
 have hcnt2:(((cntL l ev:Nat):Int)==0)=false:=by simp;omega
 have HRM:Hid (∀d,Calls prog 168 #[.pointer (some ⟨b,0,none⟩),.int .i64 f] (w.drewN d) fun e w'=>e=.returned (.tuple #[])∧LRu w' b n (awayL l f) (setL l ev f false) F∧Fr F w w'):=by
  intro d;refine(lru_remove (HLR.out.fr ((Fr.refl NoF w).drewN d) (fun _ _ q=>q)) f hfn).mono ?_;rintro e w'⟨he,hl,hf⟩;exact⟨he,hl,((Fr.refl F w).drewN d).trans hf (fun _ q=>.inl q)⟩
 clear hc hF hbef hj hev h0 HFI e1 hcnt hcnt';go_enter func171,ntmps171
 go_wp2_with(first
  |(go_at_call 170;refine HZ.out.mono ?_;rintro e w'⟨rfl,rfl⟩)
  |(go_at_call 173;refine HF1.out.mono ?_;rintro e w'⟨rfl,d,rfl⟩))
 clear HZ HF1
 go_loopg [6] j (fun g i wr=>∃k:Nat,k<=j∧g=j-k∧i=.int .i64 (ixI l[k]?)∧∃d,w.drewN d=wr)
 case atStart=>exact⟨0,Nat.zero_le _,by omega,rfl,d,rfl⟩
 case round=>
  obtain⟨k,hk,rfl,rfl,d,rfl⟩:=hrel;by_cases hkj:k<j
  .have hkl:k<l.length:=by omega
   obtain⟨hxn,hce⟩:=HCE.out k l[k] hk (List.getElem?_eq_getElem hkl);rw[HB.out k l[k] hkj (List.getElem?_eq_getElem hkl)]at hce;have HN:=Hd (HNX.out k l[k] d (List.getElem?_eq_getElem hkl));rw[show ixI l[k]?=(l[k]:Nat)from by simp[ixI,hkl]];generalize l[k]=x at*
   go_wp2_with(go_at_call 174;refine HN.out.mono ?_;rintro e w'⟨rfl,rfl⟩)
   go_roundg (j-(k+1))
   case measure=>omega
   case rel=>exact⟨k+1,by omega,rfl,rfl,d,rfl⟩
  .obtain rfl:k=j:=by omega
   obtain⟨hxn,hce⟩:=HCE.out k f (Nat.le_refl _) HJ.out;rw[HE.out]at hce;rw[show ixI l[k]?=(f:Nat)from by simp[ixI,HJ.out]]
   go_wp2_with fail
   refine(HRM.out d).mono ?_;rintro e w'⟨rfl,hl,hf⟩;have HL:=Hd hl;have HFr:=Hd hf;clear hl hf;go_wp2;go_returns;exact⟨rfl,HL.out,HFr.out⟩
end
end
section
open Go.RowKit
abbrev LT:=List Nat×(Nat->Bool)
def lruRem(t:LT)(f:Nat):LT:=(awayL t.1 f,setL t.1 t.2 f false)
def lruPol:Pol LT where
 miss t _:=t
 access t f _:=(backL t.1 f,t.2)
 set t f v:=(t.1,setL t.1 t.2 f v)
 victim t _:=firstL t.1 t.2
 gone t _:=match firstL t.1 t.2 with|none=>t|some f=>lruRem t f
 remove t f:=lruRem t f
 size t:=cntL t.1 t.2
 ghosts _:=[]
def lruPre(n:Nat)(_:LT)(c:Cl):Prop:=(c.kind=1∨c.kind=2∨c.kind=4)->c.frame<n
def lruCR(b n:Nat)(w:World)(t:LT)(F:Nat->Prop):Prop:=LRu w b n t.1 t.2 F
theorem lru_cod(b n:Nat):CodG lruPol (lruCR b n) b (lruPre n) 167 165 169 171 168 where
 fr:=by
  intro w w' s F G h f hd;exact LRu.fr h f hd
 lt:=by
  intro w s F h;exact LRu.lt h
 miss:=by
  intro w s F c h hp hk;exact(lru_miss _ _).mono fun e w' ⟨he,hw⟩=>⟨he,F,hw▸h,hw▸Fr.refl _ _,fun i hi=>.inl hi⟩
 access:=by
  intro w s F c h hp hk;exact(lru_access h c.frame (hp (.inl hk)) _).mono fun e w' ⟨he,h',hf⟩=>⟨he,F,h',hf,fun i hi=>.inl hi⟩
 set:=by
  intro w s F c h hp hk;exact(lru_set h c.frame (hp (.inr (.inl hk))) c.on).mono fun e w' ⟨he,h',hf⟩=>⟨he,F,h',hf,fun i hi=>.inl hi⟩
 victimNo:=by
  intro w s F c h hp hk hv
  have h0:cntL s.1 s.2=0:=by
   rcases Nat.eq_zero_or_pos (cntL s.1 s.2)with q|q
   .exact q
   .obtain⟨f,j,e,_⟩:=firstL_some q
    have hv:firstL s.1 s.2=none:=hv;rw[e]at hv;cases hv
  exact(lru_victim_no h _ h0).mono fun e w' ⟨he,hw⟩=>⟨he,F,hw▸h,hw▸Fr.refl _ _,fun i hi=>.inl hi⟩
 victimYes:=by
  intro w s F c a h hp hk hv;have hv:firstL s.1 s.2=some a:=hv;have hg:lruPol.gone s c.page=lruRem s a:=by show(match firstL s.1 s.2 with|none=>s|some f=>lruRem s f)=_;rw[hv]
  rw[hg];exact(lru_victim_yes h _ a hv).mono fun e w' ⟨he,h',hf⟩=>⟨he,F,h',hf,fun i hi=>.inl hi⟩
 remove:=by
  intro w s F c h hp hk;exact(lru_remove h c.frame (hp (.inr (.inr hk)))).mono fun e w' ⟨he,h',hf⟩=>⟨he,F,h',hf,fun i hi=>.inl hi⟩
end
end Go.Proofs.YtoenclhimbpfeaaGreatDoor
