/- Part 18. -/
import Derived.Test.YtipopinjppjnfaaGreatDoorK17
import Derived.Test.YtipopinjppjnfaaGreatDoorK14
namespace Go.Proofs.YtipopinjppjnfaaGreatDoor
set_option linter.all false
set_option maxHeartbeats 16000000
set_option maxRecDepth 100000
section
open Go.Proofs.Tryz Go.RowKit
section
variable{w:World}{b rb eb n:Nat}{l:List Nat}{ev:Nat->Bool}{F FR:Nat->Prop}
theorem lru_remove(h:LRu w b n l ev F)(f:Nat)(hf:f<n):
  Calls prog 136 #[.pointer (some ⟨b,0,none⟩),.int .i64 f] w fun e w'=>e=.returned (.tuple #[])∧LRu w' b n (awayL l f) (setL l ev f false) F∧Fr F w w':=by
 have HS:=Hd (lru_set h f hf false);obtain⟨rb,eb,FR,hc,hF⟩:=h;have hF0:=Hd hF;have HH:=lru_has hc f;by_cases hm:f∈l
 .rw[show decide (f∈l)=true from by simp[hm]]at HH
  have H:=Hd HH;have HM:=Hd hm;clear HH hm hF hc;go_enter func136,ntmps136
  go_wp2_with(go_at_call 140;refine H.out.mono ?_;rintro e w'⟨rfl,rfl⟩)
  refine HS.out.mono ?_;clear HS;rintro e w1⟨rfl,⟨rb1,eb1,FR1,hc1,hF1⟩,f1⟩;have HF1:=Hd hF1;have c0:=hc1.c0;have HO:=Hd (Out_all hc1.rr f);have HC1:=Hd hc1;have HF:=Hd f1;clear hF1 hc1 f1
  go_wp2_with fail
  refine HO.out.mono ?_;clear HO;rintro e w2⟨rfl,hR,f2⟩
  have hR':RR w2 rb1 n 1 [awayL l f] FR1:=by
   have:outZ [l] (f:Int)=[awayL l f]:=by rw[outZ,if_pos (by omega)];exact outL1 l f
   rw[this]at hR;exact hR
  have hs:setL l ev f false=upd ev f false:=by simp[setL,HM.out]
  have key:LRu w2 b n (awayL l f) (setL l ev f false) F:=by
   have hc1:=HC1.out;refine⟨rb1,eb1,FR1,⟨?_,hc1.be.fr f2 hc1.d3,hR',hc1.d1,hc1.d2,hc1.d3,fun g hg=>?_,hc1.hn⟩,HF1.out⟩
   .have h1:=cnt_away hc1.rr.row0.1 (setL l ev f false) f
    rw[if_neg (by rw[hs,upd_same];simp)]at h1;rw[show cntL (awayL l f) (setL l ev f false)=cntL l (setL l ev f false)from by omega];exact hc1.hd.fr f2 hc1.d2
   .refine mem_away.2 ⟨hc1.out g hg,fun e=>?_⟩
    rw[hs,e,upd_same]at hg;cases hg
  have hfr:Fr F w w2:=HF.out.trans f2 (fun i q=>.inl ((HF1.out i).2 (.inr (.inr q))));clear hR hR' f2 hs;go_wp2;go_returns;exact⟨rfl,key,hfr⟩
 .rw[show decide (f∈l)=false from by simp[hm]]at HH
  have H:=Hd HH;have hs:setL l ev f false=ev:=by simp[setL,hm]
  have ha:awayL l f=l:=filter_not hm;rw[hs,ha];have HC:=Hd hc;clear HH hm hF hs ha hc;go_enter func136,ntmps136
  go_wp2_with(go_at_call 140;refine H.out.mono ?_;rintro e w'⟨rfl,rfl⟩)
  go_returns;exact⟨rfl,⟨rb,eb,FR,HC.out,hF0.out⟩,Fr.refl _ _⟩
def firstL(l:List Nat)(ev:Nat->Bool):Option Nat:=l.find? ev
theorem firstL_none{l:List Nat}{ev:Nat->Bool}(h:cntL l ev=0):firstL l ev=none:=by
 unfold firstL cntL at*;rw[List.find?_eq_none];intro x hx hev;have:x∈l.filter ev:=List.mem_filter.2 ⟨hx,hev⟩;rw[List.eq_nil_of_length_eq_zero h]at this
 cases this
theorem firstL_some{l:List Nat}{ev:Nat->Bool}(h:0<cntL l ev):∃(f j:Nat),firstL l ev=some f∧l[j]?=some f∧ev f=true∧∀(i g:Nat),i<j->l[i]?=some g->ev g=false:=by
 unfold firstL cntL at*;obtain⟨x,hx⟩:=List.exists_mem_of_length_pos h;obtain⟨hx1,hx2⟩:=List.mem_filter.1 hx;obtain⟨f,hf⟩:=Option.isSome_iff_exists.1 (List.find?_isSome.2 ⟨x,hx1,hx2⟩);obtain⟨he,j,hj,hjf,hb⟩:=List.find?_eq_some_iff_getElem.1 hf;refine⟨f,j,hf,by rw[List.getElem?_eq_getElem hj,hjf],he,fun i g hi hg=>?_⟩;have:=hb i hi;rw[List.getElem?_eq_getElem (by omega)]at hg;have e:=Option.some.inj hg;rw[e]at this;simpa using this
theorem lru_victim_no(h:LRu w b n l ev F)(p:Int)(h0:cntL l ev=0):
  Calls prog 139 #[.pointer (some ⟨b,0,none⟩),.int .u32 p] w fun e w'=>e=.returned (.tuple #[.int .i64 0,.bool false])∧w=w':=by
 obtain⟨rb,eb,FR,hc,hF⟩:=h;have HZ:=lru_size hc;rw[h0]at HZ;have H:=Hd HZ;clear HZ h0 hF hc;go_enter func139,ntmps139
 go_wp2_with(go_at_call 138;refine H.out.mono ?_;rintro e w'⟨rfl,rfl⟩)
 go_returns;exact⟨rfl,rfl⟩
theorem lru_victim_yes(h:LRu w b n l ev F)(p:Int)(f:Nat)(h0:firstL l ev=some f):
  Calls prog 139 #[.pointer (some ⟨b,0,none⟩),.int .u32 p] w fun e w'=>e=.returned (.tuple #[.int .i64 f,.bool true])∧LRu w' b n (awayL l f) (setL l ev f false) F∧Fr F w w':=by
 have HLR:=Hd h;obtain⟨rb,eb,FR,hc,hF⟩:=h
 have hcnt:0<cntL l ev:=by
  rcases Nat.eq_zero_or_pos (cntL l ev)with q|q
  .rw[firstL_none q]at h0;cases h0
  .exact q
 obtain⟨f',j,e1,hj,hev,hbef⟩:=firstL_some hcnt;rw[h0]at e1;obtain rfl:=Option.some.inj e1;have hjl:j<l.length:=(List.getElem?_eq_some_iff.1 hj).1;have hln:=hc.rr.len0;have hn:=hc.hn;have hcl:=cnt_le l ev;have hfn:f<n:=hc.rr.row0.2 f (List.mem_of_getElem? hj);have HZ:=Hd (lru_size hc);have HFI:=First_all hc.rr 0;rw[show rowZ [l] 0=l from rfl,List.head?_eq_getElem?]at HFI;have HF1:=Hd HFI
 have HNX:Hid (∀(i x:Nat) (d:Nat),l[i]?=some x->Calls prog 142 #[.pointer (some ⟨rb,0,none⟩),.int .i64 x] (w.drewN d) fun e w'=>e=.returned (.int .i64 (ixI l[i+1]?))∧w.drewN d=w'):=by
  intro i x d hi;have hR:=hc.rr.fr ((Fr.refl NoF w).drewN d) (fun _ _ q=>q);have:=(rowZ_facts hR 0).2 i x (by simpa[rowZ]using hi);rw[show rowZ [l] 0=l from rfl]at this;rw[<-this];exact Next_all hR x
 have c0:=hc.c0;have c1:=hc.c1
 have HCE:Hid (∀i x,i<=j->l[i]?=some x->x<n∧w.cell? ⟨eb,x,none⟩=some (.bool (ev x))):=fun i x hi hx=>by
  have hxn:=hc.rr.row0.2 x (List.mem_of_getElem? hx);exact⟨hxn,hc.ce hxn⟩
 have HB:=Hd hbef;have HJ:=Hd hj;have HE:=Hd hev;have hcnt':((cntL l ev:Nat):Int)≠0:=by omega
 have hcnt2:(((cntL l ev:Nat):Int)==0)=false:=by simp;omega
 have HRM:Hid (∀d,Calls prog 136 #[.pointer (some ⟨b,0,none⟩),.int .i64 f] (w.drewN d) fun e w'=>e=.returned (.tuple #[])∧LRu w' b n (awayL l f) (setL l ev f false) F∧Fr F w w'):=by
  intro d;refine(lru_remove (HLR.out.fr ((Fr.refl NoF w).drewN d) (fun _ _ q=>q)) f hfn).mono ?_;rintro e w'⟨he,hl,hf⟩;exact⟨he,hl,((Fr.refl F w).drewN d).trans hf (fun _ q=>.inl q)⟩
 clear hc hF hbef hj hev h0 HFI e1 hcnt hcnt';go_enter func139,ntmps139
 go_wp2_with(first
  |(go_at_call 138;refine HZ.out.mono ?_;rintro e w'⟨rfl,rfl⟩)
  |(go_at_call 141;refine HF1.out.mono ?_;rintro e w'⟨rfl,d,rfl⟩))
 clear HZ HF1
 go_loopg [6] j (fun g i wr=>∃k:Nat,k<=j∧g=j-k∧i=.int .i64 (ixI l[k]?)∧∃d,w.drewN d=wr)
 case atStart=>exact⟨0,Nat.zero_le _,by omega,rfl,d,rfl⟩
 case round=>
  obtain⟨k,hk,rfl,rfl,d,rfl⟩:=hrel;by_cases hkj:k<j
  .have hkl:k<l.length:=by omega
   obtain⟨hxn,hce⟩:=HCE.out k l[k] hk (List.getElem?_eq_getElem hkl);rw[HB.out k l[k] hkj (List.getElem?_eq_getElem hkl)]at hce;have HN:=Hd (HNX.out k l[k] d (List.getElem?_eq_getElem hkl));rw[show ixI l[k]?=(l[k]:Nat)from by simp[ixI,hkl]];generalize l[k]=x at*
   go_wp2_with(go_at_call 142;refine HN.out.mono ?_;rintro e w'⟨rfl,rfl⟩)
   go_roundg (j-(k+1))
   case measure=>omega
   case rel=>exact⟨k+1,by omega,rfl,rfl,d,rfl⟩
  .obtain rfl:k=j:=by omega
   obtain⟨hxn,hce⟩:=HCE.out k f (Nat.le_refl _) HJ.out;rw[HE.out]at hce;rw[show ixI l[k]?=(f:Nat)from by simp[ixI,HJ.out]]
   go_wp2_with fail
   refine(HRM.out d).mono ?_;rintro e w'⟨rfl,hl,hf⟩;have HL:=Hd hl;have HFr:=Hd hf;clear hl hf;go_wp2;go_returns;exact⟨rfl,HL.out,HFr.out⟩
end
end
section
open Go.RowKit
abbrev LT:=List Nat×(Nat->Bool)
def lruRem(t:LT)(f:Nat):LT:=(awayL t.1 f,setL t.1 t.2 f false)
def lruPol:Pol LT where
 miss t _:=t
 access t f _:=(backL t.1 f,t.2)
 set t f v:=(t.1,setL t.1 t.2 f v)
 victim t _:=firstL t.1 t.2
 gone t _:=match firstL t.1 t.2 with|none=>t|some f=>lruRem t f
 remove t f:=lruRem t f
 size t:=cntL t.1 t.2
 ghosts _:=[]
def lruPre(n:Nat)(_:LT)(c:Cl):Prop:=(c.kind=1∨c.kind=2∨c.kind=4)->c.frame<n
def lruCR(b n:Nat)(w:World)(t:LT)(F:Nat->Prop):Prop:=LRu w b n t.1 t.2 F
theorem lru_cod(b n:Nat):CodG lruPol (lruCR b n) b (lruPre n) 135 133 137 139 136 where
 fr:=by
  intro w w' s F G h f hd;exact LRu.fr h f hd
 lt:=by
  intro w s F h;exact LRu.lt h
 miss:=by
  intro w s F c h hp hk;exact(lru_miss _ _).mono fun e w' ⟨he,hw⟩=>⟨he,F,hw▸h,hw▸Fr.refl _ _,fun i hi=>.inl hi⟩
 access:=by
  intro w s F c h hp hk;exact(lru_access h c.frame (hp (.inl hk)) _).mono fun e w' ⟨he,h',hf⟩=>⟨he,F,h',hf,fun i hi=>.inl hi⟩
 set:=by
  intro w s F c h hp hk;exact(lru_set h c.frame (hp (.inr (.inl hk))) c.on).mono fun e w' ⟨he,h',hf⟩=>⟨he,F,h',hf,fun i hi=>.inl hi⟩
 victimNo:=by
  intro w s F c h hp hk hv
  have h0:cntL s.1 s.2=0:=by
   rcases Nat.eq_zero_or_pos (cntL s.1 s.2)with q|q
   .exact q
   .obtain⟨f,j,e,_⟩:=firstL_some q
    have hv:firstL s.1 s.2=none:=hv;rw[e]at hv;cases hv
  exact(lru_victim_no h _ h0).mono fun e w' ⟨he,hw⟩=>⟨he,F,hw▸h,hw▸Fr.refl _ _,fun i hi=>.inl hi⟩
 victimYes:=by
  intro w s F c a h hp hk hv;have hv:firstL s.1 s.2=some a:=hv;have hg:lruPol.gone s c.page=lruRem s a:=by show(match firstL s.1 s.2 with|none=>s|some f=>lruRem s f)=_;rw[hv]
  rw[hg];exact(lru_victim_yes h _ a hv).mono fun e w' ⟨he,h',hf⟩=>⟨he,F,h',hf,fun i hi=>.inl hi⟩
 remove:=by
  intro w s F c h hp hk;exact(lru_remove h c.frame (hp (.inr (.inr hk)))).mono fun e w' ⟨he,h',hf⟩=>⟨he,F,h',hf,fun i hi=>.inl hi⟩
end
end Go.Proofs.YtipopinjppjnfaaGreatDoor
