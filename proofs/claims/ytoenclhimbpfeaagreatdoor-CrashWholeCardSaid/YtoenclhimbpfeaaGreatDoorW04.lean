/- Part 4. -/
import Derived.Test.YtoenclhimbpfeaaGreatDoorW03
namespace Go.Proofs.YtoenclhimbpfeaaGreatDoor
set_option linter.all false
set_option maxHeartbeats 16000000
set_option maxRecDepth 100000
section
open Go.Proofs.Tryz Go.RowKit
def Cw(rb eb n sz:Nat):Nat->Value
 |0=>.pointer (some ⟨rb,0,none⟩)
 |1=>.slice (some ⟨eb,0,none⟩) n n
 |2=>.int .i64 sz
 |_=>.int .i64 0
structure LCu(w:World)(b rb eb n:Nat)(l:List Nat)(ev:Nat->Bool)(FR:Nat->Prop):Prop where
 hd:Blk w b 3 (Cw rb eb n (cntL l ev))
 be:Blk w eb n (bF ev)
 rr:RR w rb n 1 [l] FR
 d1:¬b=eb
 d2:¬FR b
 d3:¬FR eb
 out:∀f,ev f=true->f∈l
 hn:n<=65535
def LRu(w:World)(b n:Nat)(l:List Nat)(ev:Nat->Bool)(F:Nat->Prop):Prop:=
 ∃rb eb FR,LCu w b rb eb n l ev FR/\∀i,F i↔i=b\/i=eb\/FR i
theorem RR.row0{w:World}{b n:Nat}{l:List Nat}{F:Nat->Prop}(h:RR w b n 1 [l] F):l.Nodup/\∀x∈l,x<n:=by
 obtain⟨nb,lb,rw,nx,pv,ls,hc,hi,hF⟩:=h.ex;exact⟨hi.nd 0 l rfl,λx hx=>(hi.mem 0 l rfl x hx).1⟩
theorem LCu.fr{w w':World}{b rb eb n:Nat}{l:List Nat}{ev:Nat->Bool}{FR G:Nat->Prop}(h:LCu w b rb eb n l ev FR)(f:Fr G w w')(h1:¬G b)(h2:¬G eb)(h3:∀i,FR i->¬G i):LCu w' b rb eb n l ev FR:=
 ⟨h.hd.fr f h1,h.be.fr f h2,h.rr.fr f h3,h.d1,h.d2,h.d3,h.out,h.hn⟩
theorem LRu.fr{w w':World}{b n:Nat}{l:List Nat}{ev:Nat->Bool}{F G:Nat->Prop}(h:LRu w b n l ev F)(f:Fr G w w')(hd:∀i,F i->¬G i):LRu w' b n l ev F:=by
 obtain⟨rb,eb,FR,hc,hF⟩:=h;exact⟨rb,eb,FR,hc.fr f (hd b ((hF b).2 (.inl rfl))) (hd eb ((hF eb).2 (.inr (.inl rfl)))) (λi hi=>hd i ((hF i).2 (.inr (.inr hi)))),hF⟩
theorem LRu.lt{w:World}{b n:Nat}{l:List Nat}{ev:Nat->Bool}{F:Nat->Prop}(h:LRu w b n l ev F):∀i,F i->i<w.heap.size:=by
 obtain⟨rb,eb,FR,hc,hF⟩:=h;intro i hi;rcases(hF i).1 hi with rfl|rfl|q
 .exact hc.hd.lt
 .exact hc.be.lt
 .exact hc.rr.lt i q
theorem rG(l:List Nat)(x:Nat):aG [l] x=if x∈l then some 0 else none:=by
 by_cases h:x∈l<;>simp[aG,List.findIdx?_cons,h]
theorem DT(l:List Nat)(x:Nat):bO [l] x=[aP l x]:=by
 by_cases h:x∈l
 .simp[bO,rG,h,aP]
 .simp only[bO,rG,if_neg h,aP,eM h]
theorem FW(l:List Nat)(x:Nat):cH [l] 0 x false=[eS l x]:=by
 simp[cH,DT,eS]
theorem RR.len0{w:World}{b n:Nat}{l:List Nat}{F:Nat->Prop}(h:RR w b n 1 [l] F):l.length<=n:=by
 have:=List.Nodup.length_le_of_subset (l₁:=l) (l₂:=List.range n) h.row0.1 (λy hy=>List.mem_range.2 (h.row0.2 y hy));simpa using this
section
variable{w:World}{b rb eb n:Nat}{l:List Nat}{ev:Nat->Bool}{F FR:Nat->Prop}
theorem LCu.c0(h:LCu w b rb eb n l ev FR):w.cell? ⟨b,0,none⟩=some (.pointer (some ⟨rb,0,none⟩)):=h.hd.cell (by omega)
theorem LCu.c1(h:LCu w b rb eb n l ev FR):w.cell? ⟨b,1,none⟩=some (.slice (some ⟨eb,0,none⟩) n n):=h.hd.cell (by omega)
theorem LCu.c2(h:LCu w b rb eb n l ev FR):w.cell? ⟨b,2,none⟩=some (.int .i64 (cntL l ev:Nat)):=h.hd.cell (by omega)
theorem LCu.ce(h:LCu w b rb eb n l ev FR){f:Nat}(hf:f<n):w.cell? ⟨eb,f,none⟩=some (.bool (ev f)):=h.be.cell hf
theorem yt(a:Option Addr)(p:Int):Calls prog 167 #[.pointer a,.int .u32 p] w λe w'=>e=.returned (.tuple #[])/\w=w':=by
 go_enter func167,ntmps167;go_wp2
 go_end0
 exact⟨rfl,rfl⟩
theorem rh(h:LCu w b rb eb n l ev FR):Calls prog 170 #[.pointer (some ⟨b,0,none⟩)] w λe w'=>e=.returned (.int .i64 (cntL l ev:Nat))/\w=w':=by
 have c2:=h.c2;go_enter func170,ntmps170;go_wp2
 go_ret
 exact⟨rfl,rfl⟩
end
section
variable{w:World}{b rb eb n:Nat}{l:List Nat}{ev:Nat->Bool}{F FR:Nat->Prop}
theorem u9(h:LCu w b rb eb n l ev FR)(f:Nat):Calls prog 172 #[.pointer (some ⟨b,0,none⟩),.int .i64 f] w λe w'=>e=.returned (.bool (decide (f∈l)))/\w=w':=by
 have c0:=h.c0;have HI:=fj h.rr f;rw[dA,rG]at HI;by_cases hm:f∈l
 .rw[if_pos hm]at HI
  have H:=Hd HI;have HD:Hid (decide (f∈l)=true):=by simp[Hid,hm]
  simp only[ixI]at H;rw[HD.out];clear HI hm HD;go_enter func172,ntmps172
  go_wp2_with(go_at_call 112;refine H.out.mono ?_;rintro e w'⟨rfl,rfl⟩)
  go_ret
  exact⟨rfl,rfl⟩
 .rw[if_neg hm]at HI
  have H:=Hd HI;have HD:Hid (decide (f∈l)=false):=by simp[Hid,hm]
  simp only[ixI]at H;rw[HD.out];clear HI hm HD;go_enter func172,ntmps172
  go_wp2_with(go_at_call 112;refine H.out.mono ?_;rintro e w'⟨rfl,rfl⟩)
  go_ret
  exact⟨rfl,rfl⟩
theorem sD(h:LRu w b n l ev F)(f:Nat)(hf:f<n)(p:Int):
  Calls prog 165 #[.pointer (some ⟨b,0,none⟩),.int .i64 f,.int .u32 p] w λe w'=>e=.returned (.tuple #[])/\LRu w' b n (eS l f) ev F/\Fr F w w':=by
 obtain⟨rb,eb,FR,hc,hF⟩:=h;have c0:=hc.c0;have HB:=Hd (aI hc.rr 0 f (by omega) hf);have HF:=Hd hF;clear hF;go_enter func165,ntmps165
 go_wp2_with fail
 refine HB.out.mono ?_;clear HB;rintro e w'⟨rfl,hR,f1⟩;rw[FW]at hR
 have key:LRu w' b n (eS l f) ev F:=by
  refine⟨rb,eb,FR,⟨?_,hc.be.fr f1 hc.d3,hR,hc.d1,hc.d2,hc.d3,λg hg=>kr.2 (.inl (hc.out g hg)),hc.hn⟩,HF.out⟩;rw[lh hc.rr.row0.1 ev f (hc.out f)];exact hc.hd.fr f1 hc.d2
 have hf1:Fr F w w':=f1.mono (λi q=>(HF.out i).2 (.inr (.inr q)));clear hR f1;go_wp2
 go_end0
 exact⟨rfl,key,hf1⟩
theorem BT(rb eb n s z:Nat):upd (Cw rb eb n s) 2 (.int .i64 z)=Cw rb eb n z:=by
 funext j
 match j with
 |0=>rfl
 |1=>rfl
 |2=>rfl
 |j+3=>simp[upd,Cw]
def cT(l:List Nat)(ev:Nat->Bool)(f:Nat)(v:Bool):Nat->Bool:=if f∈l then upd ev f v else ev
theorem LCu.set(h:LCu w b rb eb n l ev FR){f:Nat}(hm:f∈l)(v:Bool){z:Nat}(hz:z=cntL l (upd ev f v)):
  LCu ((w.setCell ⟨eb,f,none⟩ (.bool v)).setCell ⟨b,2,none⟩ (.int .i64 z)) b rb eb n l (upd ev f v) FR:=by
 subst hz
 have hR:RR ((w.setCell ⟨eb,f,none⟩ (.bool v)).setCell ⟨b,2,none⟩ (.int .i64 (cntL l (upd ev f v):Nat))) rb n 1 [l] FR:=by
  refine h.rr.fr (G:=λi=>i=b\/i=eb) (((Fr.refl _ _).setCell (.inl (.inr rfl)) _).setCell (.inl (.inl rfl)) _) ?_;intro i hi q;rcases q with rfl|rfl
  .exact h.d2 hi
  .exact h.d3 hi
 refine⟨?_,?_,hR,h.d1,h.d2,h.d3,?_,h.hn⟩
 .rw[<-BT rb eb n (cntL l ev)]
  exact(h.hd.other h.d1 _).set _ _
 .rw[<-sS]
  exact(h.be.set _ _).other (λe=>h.d1 e.symm) _
 .intro g hg
  by_cases e:g=f
  .rw[e];exact hm
  .rw[aa _ _ e]at hg;exact h.out g hg
theorem vM(h:LRu w b n l ev F)(f:Nat)(hf:f<n)(v:Bool):
  Calls prog 169 #[.pointer (some ⟨b,0,none⟩),.int .i64 f,.bool v] w λe w'=>e=.returned (.tuple #[])/\LRu w' b n l (cT l ev f v) F/\Fr F w w':=by
 obtain⟨rb,eb,FR,hc,hF⟩:=h;have HF:=Hd hF;have HH:=u9 hc f;have hn:=hc.hn;have hcl:=ju l ev;have hln:=hc.rr.len0;clear hF;by_cases hm:f∈l
 .have c1:=hc.c1
  have c2:=hc.c2;have ce:=hc.ce hf;have fe:∀i,w.frozen? ⟨eb,i,none⟩=false:=λi=>hc.be.frozen i
  have fb:w.frozen? ⟨b,2,none⟩=false:=hc.hd.frozen 2;have le:=hc.be.lt;have lb:=hc.hd.lt;have hd1:=hc.d1;have hd1':¬eb=b:=λe=>hd1 e.symm
  have hcu:=pm hc.rr.row0.1 ev f v hm;have HC:∀z,z=cntL l (upd ev f v)->LCu ((w.setCell ⟨eb,f,none⟩ (.bool v)).setCell ⟨b,2,none⟩ (.int .i64 z)) b rb eb n l (upd ev f v) FR:=λz hz=>hc.set hm v hz
  have HC':=Hd HC;rw[show decide (f∈l)=true from by simp[hm]]at HH;have H:=Hd HH;have HS:Hid (cT l ev f v=upd ev f v):=by simp[Hid,cT,hm]
  have HU:Hid (ev f=v->upd ev f v=ev):=by
   intro e;funext j;unfold upd;split
   .subst j;exact e.symm
   .rfl
  have HLR:Hid (LCu w b rb eb n l ev FR):=hc
  have hfr:∀z,Fr F w ((w.setCell ⟨eb,f,none⟩ (.bool v)).setCell ⟨b,2,none⟩ (.int .i64 z)):=λz=>
   ((Fr.refl F w).setCell (.inl ((HF.out eb).2 (.inr (.inl rfl)))) _).setCell (.inl ((HF.out b).2 (.inl rfl))) _
  have HFR:=Hd hfr;clear hc HH hm HC hfr;rw[HS.out];clear HS;generalize hev:ev f=x at*;have HE:=Hd hev;clear hev
  cases x<;>cases v
  .have hu:=HU.out rfl
   rw[hu];clear hu HU hcu;go_enter func169,ntmps169
   go_wp2_with(go_at_call 172;refine H.out.mono ?_;rintro e w'⟨rfl,rfl⟩)
   go_returns;exact⟨rfl,⟨rb,eb,FR,HLR.out,HF.out⟩,Fr.refl _ _⟩
  .simp at hcu
   have HCU:=Hd hcu;clear hcu;go_enter func169,ntmps169
   go_wp2_with(go_at_call 172;refine H.out.mono ?_;rintro e w'⟨rfl,rfl⟩)
   go_returns;have e1:(((cntL l ev:Nat):Int)+1)=((cntL l ev+1:Nat):Int):=by omega
   rw[e1];exact⟨rfl,⟨rb,eb,FR,HC'.out _ (by have:=HCU.out;omega),HF.out⟩,HFR.out _⟩
  .simp at hcu
   have h1:1<=((cntL l ev:Nat):Int):=by omega
   have HCU:=Hd hcu;clear hcu;go_enter func169,ntmps169
   go_wp2_with(go_at_call 172;refine H.out.mono ?_;rintro e w'⟨rfl,rfl⟩)
   go_returns;have e1:(((cntL l ev:Nat):Int)-1)=((cntL l ev-1:Nat):Int):=by omega
   rw[e1];exact⟨rfl,⟨rb,eb,FR,HC'.out _ (by have:=HCU.out;omega),HF.out⟩,HFR.out _⟩
  .have hu:=HU.out rfl
   rw[hu];clear hu HU hcu;go_enter func169,ntmps169
   go_wp2_with(go_at_call 172;refine H.out.mono ?_;rintro e w'⟨rfl,rfl⟩)
   go_returns;exact⟨rfl,⟨rb,eb,FR,HLR.out,HF.out⟩,Fr.refl _ _⟩
 .rw[show decide (f∈l)=false from by simp[hm]]at HH
  have H:=Hd HH;rw[show cT l ev f v=ev from by simp[cT,hm]];have HLR:Hid (LCu w b rb eb n l ev FR):=hc;clear hc HH hm;go_enter func169,ntmps169
  go_wp2_with(go_at_call 172;refine H.out.mono ?_;rintro e w'⟨rfl,rfl⟩)
  go_returns;exact⟨rfl,⟨rb,eb,FR,HLR.out,HF.out⟩,Fr.refl _ _⟩
end
section
variable{w:World}{b rb eb n:Nat}{l:List Nat}{ev:Nat->Bool}{F FR:Nat->Prop}
theorem kJ(h:LRu w b n l ev F)(f:Nat)(hf:f<n):
  Calls prog 168 #[.pointer (some ⟨b,0,none⟩),.int .i64 f] w λe w'=>e=.returned (.tuple #[])/\LRu w' b n (aP l f) (cT l ev f false) F/\Fr F w w':=by
 have HS:=Hd (vM h f hf false);obtain⟨rb,eb,FR,hc,hF⟩:=h;have hF0:=Hd hF;have HH:=u9 hc f;by_cases hm:f∈l
 .rw[show decide (f∈l)=true from by simp[hm]]at HH
  have H:=Hd HH;have HM:=Hd hm;clear HH hm hF hc;go_enter func168,ntmps168
  go_wp2_with(go_at_call 172;refine H.out.mono ?_;rintro e w'⟨rfl,rfl⟩)
  refine HS.out.mono ?_;clear HS;rintro e w1⟨rfl,⟨rb1,eb1,FR1,hc1,hF1⟩,f1⟩;have HF1:=Hd hF1;have c0:=hc1.c0;have HO:=Hd (jX hc1.rr f);have HC1:=Hd hc1;have HF:=Hd f1;clear hF1 hc1 f1
  go_wp2_with fail
  refine HO.out.mono ?_;clear HO;rintro e w2⟨rfl,hR,f2⟩
  have hR':RR w2 rb1 n 1 [aP l f] FR1:=by
   have:lT [l] (f:Int)=[aP l f]:=by rw[lT,if_pos (by omega)];exact DT l f
   rw[this]at hR;exact hR
  have hs:cT l ev f false=upd ev f false:=by simp[cT,HM.out]
  have key:LRu w2 b n (aP l f) (cT l ev f false) F:=by
   have hc1:=HC1.out;refine⟨rb1,eb1,FR1,⟨?_,hc1.be.fr f2 hc1.d3,hR',hc1.d1,hc1.d2,hc1.d3,λg hg=>?_,hc1.hn⟩,HF1.out⟩
   .have h1:=dU hc1.rr.row0.1 (cT l ev f false) f
    rw[if_neg (by rw[hs,upd_same];simp)]at h1;rw[show cntL (aP l f) (cT l ev f false)=cntL l (cT l ev f false)from by omega];exact hc1.hd.fr f2 hc1.d2
   .refine fx.2 ⟨hc1.out g hg,λe=>?_⟩
    rw[hs,e,upd_same]at hg;cases hg
  have hfr:Fr F w w2:=HF.out.trans f2 (λi q=>.inl ((HF1.out i).2 (.inr (.inr q))));clear hR hR' f2 hs;go_wp2;go_returns;exact⟨rfl,key,hfr⟩
 .rw[show decide (f∈l)=false from by simp[hm]]at HH
  have H:=Hd HH;have hs:cT l ev f false=ev:=by simp[cT,hm]
  have ha:aP l f=l:=eM hm;rw[hs,ha];have HC:=Hd hc;clear HH hm hF hs ha hc;go_enter func168,ntmps168
  go_wp2_with(go_at_call 172;refine H.out.mono ?_;rintro e w'⟨rfl,rfl⟩)
  go_returns;exact⟨rfl,⟨rb,eb,FR,HC.out,hF0.out⟩,Fr.refl _ _⟩
def cD(l:List Nat)(ev:Nat->Bool):Option Nat:=l.find? ev
theorem qe{l:List Nat}{ev:Nat->Bool}(h:cntL l ev=0):cD l ev=none:=by
 unfold cD cntL at*;rw[List.find?_eq_none];intro x hx hev;have:x∈l.filter ev:=List.mem_filter.2 ⟨hx,hev⟩;rw[List.eq_nil_of_length_eq_zero h]at this
 cases this
theorem jA{l:List Nat}{ev:Nat->Bool}(h:0<cntL l ev):∃(f j:Nat),cD l ev=some f/\l[j]?=some f/\ev f=true/\∀(i g:Nat),i<j->l[i]?=some g->ev g=false:=by
 unfold cD cntL at*;obtain⟨x,hx⟩:=List.exists_mem_of_length_pos h;obtain⟨hx1,hx2⟩:=List.mem_filter.1 hx;obtain⟨f,hf⟩:=Option.isSome_iff_exists.1 (List.find?_isSome.2 ⟨x,hx1,hx2⟩);obtain⟨he,j,hj,hjf,hb⟩:=List.find?_eq_some_iff_getElem.1 hf;refine⟨f,j,hf,by rw[List.getElem?_eq_getElem hj,hjf],he,λi g hi hg=>?_⟩;have:=hb i hi;rw[List.getElem?_eq_getElem (by omega)]at hg;have e:=Option.some.inj hg;rw[e]at this;simpa using this
theorem lX(h:LRu w b n l ev F)(p:Int)(h0:cntL l ev=0):
  Calls prog 171 #[.pointer (some ⟨b,0,none⟩),.int .u32 p] w λe w'=>e=.returned (.tuple #[.int .i64 0,.bool false])/\w=w':=by
 obtain⟨rb,eb,FR,hc,hF⟩:=h;have HZ:=rh hc;rw[h0]at HZ;have H:=Hd HZ;clear HZ h0 hF hc;go_enter func171,ntmps171
 go_wp2_with(go_at_call 170;refine H.out.mono ?_;rintro e w'⟨rfl,rfl⟩)
 go_returns;exact⟨rfl,rfl⟩
theorem kj(h:LRu w b n l ev F)(p:Int)(f:Nat)(h0:cD l ev=some f):
  Calls prog 171 #[.pointer (some ⟨b,0,none⟩),.int .u32 p] w λe w'=>e=.returned (.tuple #[.int .i64 f,.bool true])/\LRu w' b n (aP l f) (cT l ev f false) F/\Fr F w w':=by
 have HLR:=Hd h;obtain⟨rb,eb,FR,hc,hF⟩:=h
 have hcnt:0<cntL l ev:=by
  rcases Nat.eq_zero_or_pos (cntL l ev)with q|q
  .rw[qe q]at h0;cases h0
  .exact q
 obtain⟨f',j,e1,hj,hev,hbef⟩:=jA hcnt;rw[h0]at e1;obtain rfl:=Option.some.inj e1;have hjl:j<l.length:=(List.getElem?_eq_some_iff.1 hj).1;have hln:=hc.rr.len0;have hn:=hc.hn;have hcl:=ju l ev;have hfn:f<n:=hc.rr.row0.2 f (List.mem_of_getElem? hj);have HZ:=Hd (rh hc);have HFI:=bi hc.rr 0;rw[show bZ [l] 0=l from rfl,List.head?_eq_getElem?]at HFI;have HF1:=Hd HFI
 have HNX:Hid (∀(i x:Nat) (d:Nat),l[i]?=some x->Calls prog 174 #[.pointer (some ⟨rb,0,none⟩),.int .i64 x] (w.drewN d) λe w'=>e=.returned (.int .i64 (ixI l[i+1]?))/\w.drewN d=w'):=by
  intro i x d hi;have hR:=hc.rr.fr ((Fr.refl NoF w).drewN d) (λ_ _ q=>q);have:=(dg hR 0).2 i x (by simpa[bZ]using hi);rw[show bZ [l] 0=l from rfl]at this;rw[<-this];exact ii hR x
 have c0:=hc.c0;have c1:=hc.c1
 have HCE:Hid (∀i x,i<=j->l[i]?=some x->x<n/\w.cell? ⟨eb,x,none⟩=some (.bool (ev x))):=λi x hi hx=>by
  have hxn:=hc.rr.row0.2 x (List.mem_of_getElem? hx);exact⟨hxn,hc.ce hxn⟩
 have HB:=Hd hbef;have HJ:=Hd hj;have HE:=Hd hev;have hcnt':((cntL l ev:Nat):Int)≠0:=by omega
 have hcnt2:(((cntL l ev:Nat):Int)==0)=false:=by simp;omega
 have HRM:Hid (∀d,Calls prog 168 #[.pointer (some ⟨b,0,none⟩),.int .i64 f] (w.drewN d) λe w'=>e=.returned (.tuple #[])/\LRu w' b n (aP l f) (cT l ev f false) F/\Fr F w w'):=by
  intro d;refine(kJ (HLR.out.fr ((Fr.refl NoF w).drewN d) (λ_ _ q=>q)) f hfn).mono ?_;rintro e w'⟨he,hl,hf⟩;exact⟨he,hl,((Fr.refl F w).drewN d).trans hf (λ_ q=>.inl q)⟩
 clear hc hF hbef hj hev h0 HFI e1 hcnt hcnt';go_enter func171,ntmps171
 go_wp2_with(first
  |(go_at_call 170;refine HZ.out.mono ?_;rintro e w'⟨rfl,rfl⟩)
  |(go_at_call 173;refine HF1.out.mono ?_;rintro e w'⟨rfl,d,rfl⟩))
 clear HZ HF1
 go_loopg [6] j (λg i wr=>∃k:Nat,k<=j/\g=j-k/\i=.int .i64 (ixI l[k]?)/\∃d,w.drewN d=wr)
 case atStart=>exact⟨0,Nat.zero_le _,by omega,rfl,d,rfl⟩
 case round=>
  obtain⟨k,hk,rfl,rfl,d,rfl⟩:=hrel;by_cases hkj:k<j
  .have hkl:k<l.length:=by omega
   obtain⟨hxn,hce⟩:=HCE.out k l[k] hk (List.getElem?_eq_getElem hkl);rw[HB.out k l[k] hkj (List.getElem?_eq_getElem hkl)]at hce;have HN:=Hd (HNX.out k l[k] d (List.getElem?_eq_getElem hkl));rw[show ixI l[k]?=(l[k]:Nat)from by simp[ixI,hkl]];generalize l[k]=x at*
   go_wp2_with(go_at_call 174;refine HN.out.mono ?_;rintro e w'⟨rfl,rfl⟩)
   go_roundg (j-(k+1))
   case measure=>omega
   case rel=>exact⟨k+1,by omega,rfl,rfl,d,rfl⟩
  .obtain rfl:k=j:=by omega
   obtain⟨hxn,hce⟩:=HCE.out k f (Nat.le_refl _) HJ.out;rw[HE.out]at hce;rw[show ixI l[k]?=(f:Nat)from by simp[ixI,HJ.out]]
   go_wp2_with fail
   refine(HRM.out d).mono ?_;rintro e w'⟨rfl,hl,hf⟩;have HL:=Hd hl;have HFr:=Hd hf;clear hl hf;go_wp2;go_returns;exact⟨rfl,HL.out,HFr.out⟩
end
end
section
open Go.RowKit
abbrev LT:=List Nat×(Nat->Bool)
def jm(t:LT)(f:Nat):LT:=(aP t.1 f,cT t.1 t.2 f false)
def jz:Pol LT where
 miss t _:=t
 access t f _:=(eS t.1 f,t.2)
 set t f v:=(t.1,cT t.1 t.2 f v)
 victim t _:=cD t.1 t.2
 gone t _:=match cD t.1 t.2 with|none=>t|some f=>jm t f
 remove t f:=jm t f
 size t:=cntL t.1 t.2
 ghosts _:=[]
def yr(n:Nat)(_:LT)(c:Cl):Prop:=(c.kind=1\/c.kind=2\/c.kind=4)->c.frame<n
def As(b n:Nat)(w:World)(t:LT)(F:Nat->Prop):Prop:=LRu w b n t.1 t.2 F
theorem CV(b n:Nat):ya jz (As b n) b (yr n) 167 165 169 171 168 where
 fr:=by
  intro w w' s F G h f hd;exact LRu.fr h f hd
 lt:=by
  intro w s F h;exact LRu.lt h
 miss:=by
  intro w s F c h hp hk;exact(yt _ _).mono λe w' ⟨he,hw⟩=>⟨he,F,hw▸h,hw▸Fr.refl _ _,λi hi=>.inl hi⟩
 access:=by
  intro w s F c h hp hk;exact(sD h c.frame (hp (.inl hk)) _).mono λe w' ⟨he,h',hf⟩=>⟨he,F,h',hf,λi hi=>.inl hi⟩
 set:=by
  intro w s F c h hp hk;exact(vM h c.frame (hp (.inr (.inl hk))) c.on).mono λe w' ⟨he,h',hf⟩=>⟨he,F,h',hf,λi hi=>.inl hi⟩
 victimNo:=by
  intro w s F c h hp hk hv
  have h0:cntL s.1 s.2=0:=by
   rcases Nat.eq_zero_or_pos (cntL s.1 s.2)with q|q
   .exact q
   .obtain⟨f,j,e,_⟩:=jA q
    have hv:cD s.1 s.2=none:=hv;rw[e]at hv;cases hv
  exact(lX h _ h0).mono λe w' ⟨he,hw⟩=>⟨he,F,hw▸h,hw▸Fr.refl _ _,λi hi=>.inl hi⟩
 victimYes:=by
  intro w s F c a h hp hk hv;have hv:cD s.1 s.2=some a:=hv;have hg:jz.gone s c.page=jm s a:=by show(match cD s.1 s.2 with|none=>s|some f=>jm s f)=_;rw[hv]
  rw[hg];exact(kj h _ a hv).mono λe w' ⟨he,h',hf⟩=>⟨he,F,h',hf,λi hi=>.inl hi⟩
 remove:=by
  intro w s F c h hp hk;exact(kJ h c.frame (hp (.inr (.inr hk)))).mono λe w' ⟨he,h',hf⟩=>⟨he,F,h',hf,λi hi=>.inl hi⟩
end
section
open Go.Maps Go.RowKit
def bX(m:Int->Option Int)(x:Int)(y:Option Int):Int->Option Int:=λz=>if z=x then y else m z
theorem ba(m:Int->Option Int)(x:Int)(y:Option Int):bX m x y x=y:=by simp[bX]
theorem aE(m:Int->Option Int){x z:Int}(y:Option Int)(h:¬z=x):bX m x y z=m z:=by simp[bX,h]
structure MI(P:Program)(t k e:TypeId)(kq eq:IntKind):Prop where
 ut:P.underlying t=some (.map k e)
 uk:P.underlying k=some (.int kq)
 ue:P.underlying e=some (.int eq)
 z:∀w:World,(zeroValue e).run P w=.ok (.int eq 0) w
def EJ(kq eq:IntKind)(D:DataW Unit)(m:Int->Option Int):Prop:=∀x,(Lit.int kq x).wf=true->(m x=none->Maps.has D (.int kq x)=false)/\∀y,m x=some y->Maps.has D (.int kq x)=true/\D.atKey (.int kq x) (.lit (.int eq 0))=.lit (.int eq y)
def MpN(P:Program)(k e:TypeId)(kq eq:IntKind)(w:World)(b c:Nat)(m:Int->Option Int):Prop:=
 ∃D:DataW Unit,w.ownsMap P k (plainElem P e) b c D/\Maps.size D=c/\EJ kq eq D m
section
variable{P:Program}{t k e:TypeId}{kq eq:IntKind}{w w':World}{b c:Nat}{m:Int->Option Int}
theorem k9{R:Value->Option (DataW Unit×List MemPlace)}{n:Nat}{D:DataW Unit}(h:w.ownsMap P k R b n D):w.ownsMap P k R b (Maps.size D) D:=by
 obtain⟨es,clock,hb,F,hs,rfl⟩:=h;exact⟨es,clock,hb,F,by rw[Maps.size_eq,length_read];exact Nat.le_refl _,rfl⟩
theorem MpN.lt(h:MpN P k e kq eq w b c m):b<w.heap.size:=by obtain⟨D,h,_⟩:=h;exact h.lt
theorem MpN.fr(h:MpN P k e kq eq w b c m){G:Nat->Prop}(f:Fr G w w')(hG:¬G b):MpN P k e kq eq w' b c m:=by
 have hl:=h.lt;obtain⟨D,⟨es,clock,hb,r⟩,r2⟩:=h;exact⟨D,⟨es,clock,by rw[f.block b hl hG];exact hb,r⟩,r2⟩
theorem MpN.made(P:Program)(k e:TypeId)(kq eq:IntKind)(w:World):MpN P k e kq eq (w.alloc (.map #[] 0)) w.heap.size 0 (λ_=>none):=
 ⟨.map [],World.ownsMap_made w P k _,rfl,λx _=>⟨λ_=>rfl,λy q=>(by cases q)⟩⟩
theorem dT(h:w.mapTurned w' b):Fr (λi=>i=b) w w':=(Fr.refl _ w).grown h.grown (λi q=>.inl (by cases q;rfl))
theorem n0{x:Int}:WideAt.IsKeyLit (Lit.int kq x):=trivial
theorem MpN.put_of{D:DataW Unit}(M:MI P t k e kq eq){n:Nat}{x y:Int}(h:w'.ownsMap P k (plainElem P e) b n (D.put (.int kq x) (.lit (.int eq y))))(ht:Tidy D)(hs:Maps.size D=c)(hv:EJ kq eq D m)(hx:(Lit.int kq x).wf=true):
  MpN P k e kq eq w' b (if(m x).isSome then c else c+1) (bX m x (some y)):=by
 have hsz:=size_put (k:=.int kq x) ht (.lit (.int eq y))
 have hh:Maps.has D (.int kq x)=(m x).isSome:=by
  cases em:m x with
  |none=>exact(hv x hx).1 em
  |some z=>exact((hv x hx).2 z em).1
 rw[hs,hh]at hsz;refine⟨_,by rw[<-hsz];exact k9 h,hsz,λz hz=>?_⟩;by_cases e1:z=x
 .subst e1
  rw[ba];exact⟨λq=>(by cases q),λy' q=>by cases q;exact⟨has_put_same ht.isMap n0 _,atKey_put_same ht.isMap n0 _ _⟩⟩
 .rw[aE _ _ e1]
  have ne:Lit.int kq z≠Lit.int kq x:=λq=>e1 (by cases q;rfl)
  rw[has_put_other ne,atKey_put_other ne];exact hv z hz
theorem MpN.del_of{D:DataW Unit}{n:Nat}{x:Int}(h:w'.ownsMap P k (plainElem P e) b n (D.del (.int kq x)))(ht:Tidy D)(hs:Maps.size D=c)(hv:EJ kq eq D m)(hx:(Lit.int kq x).wf=true):
  MpN P k e kq eq w' b (if(m x).isSome then c-1 else c) (bX m x none):=by
 have hsz:=size_del (k:=.int kq x) ht
 have hh:Maps.has D (.int kq x)=(m x).isSome:=by
  cases em:m x with
  |none=>exact(hv x hx).1 em
  |some z=>exact((hv x hx).2 z em).1
 rw[hs,hh]at hsz
 have hsz':Maps.size (D.del (.int kq x))=if(m x).isSome then c-1 else c:=by
  split at hsz
  .rename_i q;rw[if_pos q];omega
  .rename_i q;rw[if_neg q];omega
 refine⟨_,by rw[<-hsz'];exact k9 h,hsz',λz hz=>?_⟩;by_cases e1:z=x
 .subst e1
  rw[ba];exact⟨λ_=>has_del_same,λy' q=>(by cases q)⟩
 .rw[aE _ _ e1]
  have ne:Lit.int kq z≠Lit.int kq x:=λq=>e1 (by cases q;rfl)
  rw[has_del_other ne,atKey_del_other ne];exact hv z hz
variable{ops:Array Oper}{rest:List Oper}{o:Oper}{a:Act}{Q:Exit->Act->World->Prop}
theorem py(M:MI P t k e kq eq)(h:MpN P k e kq eq w b c m)(hg:o.guard=none)(mo xo:Operand)(hop:o.op=Op.lookup t mo xo true)(hm:a.eval mo=.map (some b)){x:Int}(hx:a.eval xo=.int kq x)(hw:(Lit.int kq x).wf=true)
  (hK:wpList P ops Q rest (a.put o.dst (.tuple #[.int eq ((m x).getD 0),.bool (m x).isSome])) w):wpList P ops Q (o::rest) a w:=by
 obtain⟨D,h1,h2,h3⟩:=h;refine wpList_lookup_own_ok_int w hg mo xo t hop k e eq (int_keyed M.uk) M.ut M.ue (M.z w) b c D hm h1 _ _ hx (keyOf_int_mk M.uk hw) (λcc hat hwc=>?_)
 have:(Maps.has D (.int kq x))=(m x).isSome/\cc=(m x).getD 0:=by
  cases em:m x with
  |none=>
   have hh:=(h3 x hw).1 em;refine⟨hh,?_⟩;rw[atKey_of_not_has hh]at hat;simpa using hat.symm
  |some z=>
   obtain⟨q1,q2⟩:=(h3 x hw).2 z em;refine⟨q1,?_⟩;rw[q2]at hat;simpa using hat.symm
 rw[this.1,this.2];exact hK
theorem bB(M:MI P t k e kq eq)(h:MpN P k e kq eq w b c m){x y:Int}(hmx:m x=some y)(hg:o.guard=none)(mo xo:Operand)(hop:o.op=Op.lookup t mo xo true)(hm:a.eval mo=.map (some b))(hx:a.eval xo=.int kq x)(hw:(Lit.int kq x).wf=true)
  (hK:wpList P ops Q rest (a.put o.dst (.tuple #[.int eq y,.bool true])) w):wpList P ops Q (o::rest) a w:=
 py M h hg mo xo hop hm hx hw (by rw[hmx];exact hK)
theorem bz(M:MI P t k e kq eq)(h:MpN P k e kq eq w b c m){x:Int}(hmx:m x=none)(hg:o.guard=none)(mo xo:Operand)(hop:o.op=Op.lookup t mo xo true)(hm:a.eval mo=.map (some b))(hx:a.eval xo=.int kq x)(hw:(Lit.int kq x).wf=true)
  (hK:wpList P ops Q rest (a.put o.dst (.tuple #[.int eq 0,.bool false])) w):wpList P ops Q (o::rest) a w:=
 py M h hg mo xo hop hm hx hw (by rw[hmx];exact hK)
theorem o3(M:MI P t k e kq eq)(h:MpN P k e kq eq w b c m)(hc:c<1000000)(hg:o.guard=none)(mo xo vo:Operand)(hop:o.op=Op.mapUpdate t mo xo vo)(hm:a.eval mo=.map (some b)){x y:Int}(hx:a.eval xo=.int kq x)(hv:a.eval vo=.int eq y)(hw:(Lit.int kq x).wf=true)(hwy:(Lit.int eq y).wf=true)
  (hK:∀w',MpN P k e kq eq w' b (if(m x).isSome then c else c+1) (bX m x (some y))->Fr (λi=>i=b) w w'->wpList P ops Q rest (a.put o.dst undef) w'):wpList P ops Q (o::rest) a w:=by
 obtain⟨D,h1,h2,h3⟩:=h;refine wpList_mapUpdate_in w hg mo xo vo t hop k e (int_keyed M.uk) M.ut (plainElem P e) b c D hm h1 (by unfold maxLen;omega) _ _ _ hx hv (keyOf_int_mk M.uk hw) _ _ (plainElem_int M.ue hwy) (λw' h4 h5=>?_);exact hK w' (MpN.put_of M h4 (h1.tidy (int_keyed M.uk)) h2 h3 hw) (dT h5)
theorem uK(M:MI P t k e kq eq)(h:MpN P k e kq eq w b c m)(hg:o.guard=none)(mo xo:Operand)(hop:o.op=Op.call {callee:=Callee.builtin Builtin.delete,args:=#[mo,xo],argTypes:=#[t,k]})(hm:a.eval mo=.map (some b)){x:Int}(hx:a.eval xo=.int kq x)(hw:(Lit.int kq x).wf=true)
  (hK:∀w',MpN P k e kq eq w' b (if(m x).isSome then c-1 else c) (bX m x none)->Fr (λi=>i=b) w w'->wpList P ops Q rest (a.put o.dst (.tuple #[])) w'):wpList P ops Q (o::rest) a w:=by
 obtain⟨D,h1,h2,h3⟩:=h;refine wpList_delete_own w hg mo xo t k hop e (int_keyed M.uk) M.ut (plainElem P e) b c D hm h1 _ _ hx (keyOf_int_mk M.uk hw) (λw' h4 h5=>?_);exact hK w' (MpN.del_of h4 (h1.tidy (int_keyed M.uk)) h2 h3 hw) (dT h5)
end
def rdV(v:Value):Option (DataW Value×List MemPlace):=some (.held v,[])
def dJ(m:Int->Option Value)(x:Int)(y:Option Value):Int->Option Value:=λz=>if z=x then y else m z
theorem gd(m:Int->Option Value)(x:Int)(y:Option Value):dJ m x y x=y:=by simp[dJ]
theorem eH(m:Int->Option Value){x z:Int}(y:Option Value)(h:¬z=x):dJ m x y z=m z:=by simp[dJ,h]
structure MV(P:Program)(t k e:TypeId)(kq:IntKind)(z0:Value):Prop where
 ut:P.underlying t=some (.map k e)
 uk:P.underlying k=some (.int kq)
 z:∀w:World,(zeroValue e).run P w=.ok z0 w
def Bo(kq:IntKind)(z0:Value)(D:DataW Value)(m:Int->Option Value):Prop:=∀x,(Lit.int kq x).wf=true->(m x=none->Maps.has D (.int kq x)=false)/\∀y,m x=some y->Maps.has D (.int kq x)=true/\D.atKey (.int kq x) (.held z0)=.held y
def MpV(P:Program)(k:TypeId)(kq:IntKind)(z0:Value)(w:World)(b c:Nat)(m:Int->Option Value):Prop:=
 ∃D:DataW Value,w.ownsMap P k rdV b c D/\Maps.size D=c/\Bo kq z0 D m
section
variable{P:Program}{t k e:TypeId}{kq:IntKind}{z0:Value}{w w':World}{b c:Nat}{m:Int->Option Value}
theorem jD{R:Value->Option (DataW Value×List MemPlace)}{n:Nat}{D:DataW Value}(h:w.ownsMap P k R b n D):w.ownsMap P k R b (Maps.size D) D:=by
 obtain⟨es,clock,hb,F,hs,rfl⟩:=h;exact⟨es,clock,hb,F,by rw[Maps.size_eq,length_read];exact Nat.le_refl _,rfl⟩
theorem MpV.lt(h:MpV P k kq z0 w b c m):b<w.heap.size:=by obtain⟨D,h,_⟩:=h;exact h.lt
theorem MpV.fr(h:MpV P k kq z0 w b c m){G:Nat->Prop}(f:Fr G w w')(hG:¬G b):MpV P k kq z0 w' b c m:=by
 have hl:=h.lt;obtain⟨D,⟨es,clock,hb,r⟩,r2⟩:=h;exact⟨D,⟨es,clock,by rw[f.block b hl hG];exact hb,r⟩,r2⟩
theorem MpV.ofHeap(h:MpV P k kq z0 w b c m)(e':w'.heap[b]?=w.heap[b]?):MpV P k kq z0 w' b c m:=by
 obtain⟨D,⟨es,clock,hb,r⟩,r2⟩:=h;exact⟨D,⟨es,clock,by rw[e'];exact hb,r⟩,r2⟩
theorem MpV.alloc(h:MpV P k kq z0 w b c m)(o:Obj):MpV P k kq z0 (w.alloc o) b c m:=h.ofHeap (Below.heap_alloc w o b h.lt)
theorem MpV.made(P:Program)(k:TypeId)(kq:IntKind)(z0:Value)(w:World):MpV P k kq z0 (w.alloc (.map #[] 0)) w.heap.size 0 (λ_=>none):=
 ⟨.map [],World.ownsMap_made w P k _,rfl,λx _=>⟨λ_=>rfl,λy q=>(by cases q)⟩⟩
theorem MpV.put_of{D:DataW Value}(M:MV P t k e kq z0){n:Nat}{x:Int}{y:Value}(h:w'.ownsMap P k rdV b n (D.put (.int kq x) (.held y)))(ht:Tidy D)(hs:Maps.size D=c)(hv:Bo kq z0 D m)(hx:(Lit.int kq x).wf=true):
  MpV P k kq z0 w' b (if(m x).isSome then c else c+1) (dJ m x (some y)):=by
 have hsz:=size_put (k:=.int kq x) ht (.held y)
 have hh:Maps.has D (.int kq x)=(m x).isSome:=by
  cases em:m x with
  |none=>exact(hv x hx).1 em
  |some z=>exact((hv x hx).2 z em).1
 rw[hs,hh]at hsz;refine⟨_,by rw[<-hsz];exact jD h,hsz,λz hz=>?_⟩;by_cases e1:z=x
 .subst e1
  rw[gd];exact⟨λq=>(by cases q),λy' q=>by cases q;exact⟨has_put_same ht.isMap n0 _,atKey_put_same ht.isMap n0 _ _⟩⟩
 .rw[eH _ _ e1]
  have ne:Lit.int kq z≠Lit.int kq x:=λq=>e1 (by cases q;rfl)
  rw[has_put_other ne,atKey_put_other ne];exact hv z hz
theorem MpV.del_of{D:DataW Value}(M:MV P t k e kq z0){n:Nat}{x:Int}(h:w'.ownsMap P k rdV b n (D.del (.int kq x)))(ht:Tidy D)(hs:Maps.size D=c)(hv:Bo kq z0 D m)(hx:(Lit.int kq x).wf=true):
  MpV P k kq z0 w' b (if(m x).isSome then c-1 else c) (dJ m x none):=by
 have hsz:=size_del (k:=.int kq x) ht
 have hh:Maps.has D (.int kq x)=(m x).isSome:=by
  cases em:m x with
  |none=>exact(hv x hx).1 em
  |some z=>exact((hv x hx).2 z em).1
 rw[hs,hh]at hsz
 have hsz':Maps.size (D.del (.int kq x))=if(m x).isSome then c-1 else c:=by
  split at hsz
  .rename_i q;rw[if_pos q];omega
  .rename_i q;rw[if_neg q];omega
 refine⟨_,by rw[<-hsz'];exact jD h,hsz',λz hz=>?_⟩;by_cases e1:z=x
 .subst e1
  rw[gd];exact⟨λ_=>has_del_same,λy' q=>(by cases q)⟩
 .rw[eH _ _ e1]
  have ne:Lit.int kq z≠Lit.int kq x:=λq=>e1 (by cases q;rfl)
  rw[has_del_other ne,atKey_del_other ne];exact hv z hz
theorem MpV.sees(h:MpV P k kq z0 w b c m):∃D:DataW Value,w.ownsMap P k rdV b c D/\∀x,(Lit.int kq x).wf=true->Maps.has D (.int kq x)=(m x).isSome/\D.atKey (.int kq x) (.held z0)=.held ((m x).getD z0):=by
 obtain⟨D,h1,h2,h3⟩:=h;refine⟨D,h1,λx hx=>?_⟩
 cases em:m x with
 |none=>have:=(h3 x hx).1 em;exact⟨this,by rw[atKey_of_not_has this];rfl⟩
 |some z=>exact(h3 x hx).2 z em
theorem MpV.look_ok_run(M:MV P t k e kq z0)(h:MpV P k kq z0 w b c m){x:Int}(hx:(Lit.int kq x).wf=true):(Instr.lookup t (.map (some b)) (.int kq x) true).run P w=.ok (.tuple #[(m x).getD z0,.bool (m x).isSome]) w:=by
 obtain⟨D,h1,h2⟩:=h.sees;obtain⟨q1,q2⟩:=h2 x hx;obtain⟨v,ps,hrun,hv⟩:=h1.look_ok (int_keyed M.uk) M.ut (M.z w) (zd:=.held z0) (zp:=[]) rfl (keyOf_int_mk M.uk hx);rw[q2]at hv;simp only[rdV,Option.some.injEq,Prod.mk.injEq,DataW.held.injEq]at hv;rw[hrun,q1,hv.1]
theorem MpV.look_run(M:MV P t k e kq z0)(h:MpV P k kq z0 w b c m){x:Int}(hx:(Lit.int kq x).wf=true):(Instr.lookup t (.map (some b)) (.int kq x) false).run P w=.ok ((m x).getD z0) w:=by
 have hh:=h;obtain⟨D,h1,h2⟩:=h.sees;obtain⟨q1,q2⟩:=h2 x hx;obtain⟨es,clock,hb,F,_,rfl⟩:=h1;rcases Maps.fit_look false (int_keyed M.uk) M.ut (M.z w) hb F (keyOf_int_mk M.uk hx)with⟨hrun,_,hat⟩|⟨e0,y,_,_,hrun,hRv,hat,_⟩
 .rw[hat (.held z0)]at q2
  simp only[DataW.held.injEq]at q2;rw[<-q2];exact hrun
 .rw[hat (.held z0)]at q2
  simp only[rdV,Option.some.injEq]at hRv;rw[<-hRv]at q2;simp only[DataW.held.injEq]at q2;rw[<-q2];exact hrun
theorem MpV.put_run(M:MV P t k e kq z0)(h:MpV P k kq z0 w b c m)(hc:c<1000000){x:Int}(hx:(Lit.int kq x).wf=true)(y:Value):
  ∃w',(Instr.mapUpdate t (.map (some b)) (.int kq x) y).run P w=.ok () w'/\MpV P k kq z0 w' b (if(m x).isSome then c else c+1) (dJ m x (some y))/\Fr (λi=>i=b) w w':=by
 obtain⟨D,h1,h2,h3⟩:=h;have K:=int_keyed M.uk;obtain⟨w',r1,r2,r3⟩:=h1.store K M.ut (by unfold maxLen;omega) (keyOf_int_mk M.uk hx) (val:=y) (d:=.held y) (ps:=[]) rfl;exact⟨w',r1,MpV.put_of M r2 (h1.tidy K) h2 h3 hx,dT r3⟩
theorem MpV.del_run(M:MV P t k e kq z0)(h:MpV P k kq z0 w b c m){x:Int}(hx:(Lit.int kq x).wf=true)(ty:TypeId):
  ∃w',(Builtin.delete_ #[t,k] ty #[.map (some b),.int kq x]).run P w=.ok (.tuple #[]) w'/\MpV P k kq z0 w' b (if(m x).isSome then c-1 else c) (dJ m x none)/\Fr (λi=>i=b) w w':=by
 obtain⟨D,h1,h2,h3⟩:=h;have K:=int_keyed M.uk;obtain⟨w',r,q1,q2⟩:=h1.drop K M.ut (keyOf_int_mk M.uk hx) ty;exact⟨w',r,MpV.del_of M q1 (h1.tidy K) h2 h3 hx,dT q2⟩
variable{ops:Array Oper}{rest:List Oper}{o:Oper}{a:Act}{Q:Exit->Act->World->Prop}
theorem Ci(M:MV P t k e kq z0)(h:MpV P k kq z0 w b c m)(hc:c<1000000)(hg:o.guard=none)(mo xo vo:Operand)(hop:o.op=Op.mapUpdate t mo xo vo)(hm:a.eval mo=.map (some b)){x:Int}{y:Value}(hx:a.eval xo=.int kq x)(hv:a.eval vo=y)(hw:(Lit.int kq x).wf=true)
  (hK:∀w',MpV P k kq z0 w' b (if(m x).isSome then c else c+1) (dJ m x (some y))->Fr (λi=>i=b) w w'->wpList P ops Q rest (a.put o.dst undef) w'):wpList P ops Q (o::rest) a w:=by
 obtain⟨w',hrun,h1,h2⟩:=h.put_run M hc hw y;refine wpList_plain hg λK' hK'=>?_
 unfold Oper.wp;simp[execOp,hop,hm,hx,hv,hrun,Result.andThen];exact hK' _ _ (hK _ h1 h2)
theorem uQ(M:MV P t k e kq z0)(h:MpV P k kq z0 w b c m)(hg:o.guard=none)(mo xo:Operand)(hop:o.op=Op.call {callee:=Callee.builtin Builtin.delete,args:=#[mo,xo],argTypes:=#[t,k]})(hm:a.eval mo=.map (some b)){x:Int}(hx:a.eval xo=.int kq x)(hw:(Lit.int kq x).wf=true)
  (hK:∀w',MpV P k kq z0 w' b (if(m x).isSome then c-1 else c) (dJ m x none)->Fr (λi=>i=b) w w'->wpList P ops Q rest (a.put o.dst (.tuple #[])) w'):wpList P ops Q (o::rest) a w:=by
 obtain⟨w',hrun,h1,h2⟩:=h.del_run M hw o.type;refine wpList_plain hg λK' hK'=>?_
 unfold Oper.wp;simp[execOp,hop,resolve,invoke,builtin,hm,hx,hrun,Result.andThen];exact hK' _ _ (hK _ h1 h2)
end
end
section
open Go.RowKit
def SlF(w:World)(e:TypeId)(size:Nat)(v:Value)(n:Nat)(c:Nat->Value):Prop:=w.ownsRow 0 e size v n ((List.range (n*size)).map c)
section
variable{w w':World}{e:TypeId}{size n:Nat}{v:Value}{c:Nat->Value}
theorem SlF.nil(w:World)(e:TypeId)(size:Nat)(c:Nat->Value):SlF w e size (.slice none 0 0) 0 c:=by
 unfold SlF;rw[Nat.zero_mul];exact World.ownsRow_nil _ _ _ _
theorem SlF.congr(h:SlF w e size v n c){c':Nat->Value}(hc:∀i,i<n*size->c i=c' i):SlF w e size v n c':=by
 unfold SlF at*;have:(List.range (n*size)).map c=(List.range (n*size)).map c':=List.map_congr_left (λi hi=>hc i (List.mem_range.1 hi));rw[<-this];exact h
theorem SlF.fr(h:SlF w e size v n c){G:Nat->Prop}(f:Fr G w w')(hG:∀b,v.ownBlock=some b->¬G b):SlF w' e size v n c:=ak h f hG
theorem SlF.fr0(h:SlF w e size v n c)(f:Fr NoF w w'):SlF w' e size v n c:=ak h f (λ_ _ q=>q)
theorem SlF.lt(h:SlF w e size v n c):∀b,v.ownBlock=some b->b<w.heap.size:=λb hb=>(World.ownsRow.lt h b hb).2
theorem SlF.shape(h:SlF w e size v n c):∃a cap,v=.slice a n cap/\n<=cap/\cap<=maxLen:=by
 obtain⟨hl,h2⟩:=h;rcases h2 with⟨rfl,rfl⟩|⟨g,cap,cur,rfl,hg,hh,h3,h4,h5,h6⟩
 .exact⟨none,0,rfl,Nat.le_refl _,by unfold maxLen;omega⟩
 .exact⟨_,cap,rfl,h3,h4⟩
theorem SlF.at(h:SlF w e size v n c)(hn:0<n):∃g cap,v=.slice (some ⟨g,0,none⟩) n cap/\n<=cap/\cap<=maxLen/\g<w.heap.size/\(∀i,w.frozen? ⟨g,i,none⟩=false)/\(∀i,i<n*size->w.cell? ⟨g,i,none⟩=some (c i)):=by
 have hlt:=h.lt;obtain⟨hl,h2⟩:=h;rcases h2 with⟨rfl,rfl⟩|⟨g,cap,cur,rfl,hg,hh,h3,h4,h5,h6⟩
 .omega
 .refine⟨g,cap,rfl,h3,h4,hlt g rfl,λi=>by simp[World.frozen?,hh],λi hi=>?_⟩
  have:((List.range (n*size)).map c)[i]?=some (c i):=by simp[hi]
  rw[<-h6,List.getElem?_take,if_pos (by simpa using hi)]at this;simpa[World.cell?,hh]using this
theorem SlF.set{g cap:Nat}(h:SlF w e size (.slice (some ⟨g,0,none⟩) n cap) n c){i:Nat}(hi:i<n*size)(u:Value):SlF (w.setCell ⟨g,i,none⟩ u) e size (.slice (some ⟨g,0,none⟩) n cap) n (upd c i u):=by
 obtain⟨hl,h2⟩:=h;refine⟨by simp,.inr ?_⟩;rcases h2 with⟨h2,_⟩|⟨g',cap',cur,h2,hg,hh,h3,h4,h5,h6⟩
 .cases h2
 .simp only[Value.slice.injEq,Option.some.injEq,Addr.mk.injEq]at h2
  obtain⟨⟨rfl,_⟩,_,rfl⟩:=h2;refine⟨g,cap,cur.setIfInBounds i u,rfl,Nat.zero_le _,?_,h3,h4,by simp[h5],?_⟩
  .simp[World.setCell,Array.getElem?_modify,hh]
  .apply List.ext_getElem?
   intro j;rw[List.getElem?_take];by_cases hj:j<n*size
   .have h7:((List.range (n*size)).map c)[j]?=some (c j):=by simp[hj]
    rw[<-h6,List.getElem?_take,if_pos (by simpa using hj)]at h7;rw[if_pos (by simpa using hj)];have h8:((List.range (n*size)).map (upd c i u))[j]?=some (upd c i u j):=by simp[hj]
    rw[h8,Array.toList_setIfInBounds,List.getElem?_set];by_cases e1:i=j
    .subst e1
     have hlen:i<cur.toList.length:=(List.getElem?_eq_some_iff.1 h7).1;rw[if_pos rfl,if_pos hlen,upd_same]
    .rw[if_neg e1,h7,aa _ _ (λq=>e1 q.symm)]
   .rw[if_neg (by simpa using hj)]
    simp[Nat.le_of_not_lt hj]
theorem SlF.cut{a:Option Addr}{cap:Nat}(h:SlF w e size (.slice a n cap) n c){m:Nat}(hm:m<=n):SlF w e size (.slice a m cap) m c:=by
 obtain⟨hl,h2⟩:=h;refine⟨by simp,?_⟩;rcases h2 with⟨h2,h3⟩|⟨g',cap',cur,h2,hg,hh,h3,h4,h5,h6⟩
 .simp only[Value.slice.injEq]at h2
  obtain⟨rfl,rfl,rfl⟩:=h2
  left
  have:m=0:=by omega
  subst this;exact⟨rfl,rfl⟩
 .simp only[Value.slice.injEq]at h2
  obtain⟨rfl,_,rfl⟩:=h2;refine .inr ⟨g',cap,cur,rfl,hg,hh,by omega,h4,h5,?_⟩;have hmn:m*size<=n*size:=Nat.mul_le_mul_right _ hm;apply List.ext_getElem?;intro j;rw[List.getElem?_take];by_cases hj:j<m*size
  .rw[if_pos (by simpa using hj)]
   have h7:((List.range (n*size)).map c)[j]?=some (c j):=by simp[show j<n*size from by omega]
   rw[<-h6,List.getElem?_take,if_pos (by omega)]at h7;rw[h7];simp[hj]
  .rw[if_neg (by simpa using hj)]
   simp[Nat.le_of_not_lt hj]
theorem b8(c:Nat->Value)(k:Nat)(u:Value):(List.range k).map c++[u]=(List.range (k+1)).map (upd c k u):=by
 rw[List.range_succ,List.map_append]
 congr 1
 .apply List.map_congr_left
  intro i hi;rw[aa];have:=List.mem_range.1 hi;omega
 .simp[upd_same]
theorem SlF.snoc1{k:Nat}{u:Value}(h:w.ownsRow 0 e 1 v (k+1) ((List.range (k*1)).map c++[u])):SlF w e 1 v (k+1) (upd c k u):=by
 unfold SlF;rw[Nat.mul_one]at*;rw[<-b8];exact h
theorem SlF.snoc2{k:Nat}{u1 u2:Value}(h:w.ownsRow 0 e 2 v (k+1) ((List.range (k*2)).map c++[u1,u2])):SlF w e 2 v (k+1) (upd (upd c (k*2) u1) (k*2+1) u2):=by
 unfold SlF;rw[show(k+1)*2=k*2+1+1 from by omega,<-b8,<-b8,List.append_assoc];exact h
end
def uN(g:Nat->Nat)(i:Nat):Value:=.int .u32 (g i:Nat)
theorem lU(g:Nat->Nat)(i x:Nat):upd (uN g) i (.int .u32 (x:Nat))=uN (upd g i x):=by
 funext j
 by_cases e:j=i
 .subst e;simp[upd_same,uN]
 .rw[aa _ _ e];simp[uN,aa _ _ e]
end
end Go.Proofs.YtoenclhimbpfeaaGreatDoor
