/- Part 43. -/
import Derived.Test.YtoenclhimbpfeaaGreatDoorW42
import Derived.Test.YtoenclhimbpfeaaGreatDoorW18
import Derived.Test.YtoenclhimbpfeaaGreatDoorW24
import Derived.Test.YtoenclhimbpfeaaGreatDoorW12
namespace Go.Proofs.YtoenclhimbpfeaaGreatDoor
set_option linter.all false
set_option maxHeartbeats 16000000
set_option maxRecDepth 100000
section
open Go.Proofs.Tryz Go.RowKit
def rvP(t:TypeId)(b:Nat):Value:=.iface t (.pointer (some ⟨b,0,none⟩))
def IsP(t:TypeId)(m a s v r:FuncId):Prop:=
 (t=87/\m=167/\a=165/\s=169/\v=171/\r=168)\/
 (t=90/\m=178/\a=176/\s=180/\v=182/\r=179)\/
 (t=93/\m=206/\a=204/\s=208/\v=210/\r=207)\/
 (t=96/\m=221/\a=219/\s=223/\v=225/\r=222)\/
 (t=99/\m=239/\a=237/\s=241/\v=243/\r=240)
theorem Bn{t:TypeId}{m a s v r:FuncId}(h:IsP t m a s v r)(b:Nat):Clo (rvP t b) b m a s v r:=by
 unfold rvP;rcases h with⟨rfl,rfl,rfl,rfl,rfl,rfl⟩|⟨rfl,rfl,rfl,rfl,rfl,rfl⟩|⟨rfl,rfl,rfl,rfl,rfl,rfl⟩|⟨rfl,rfl,rfl,rfl,rfl,rfl⟩|⟨rfl,rfl,rfl,rfl,rfl,rfl⟩
 all_goals
  refine⟨λhc q2 q4=>?_,λhc q1 q2 q3 q4 hg=>?_,λhc q1 q3 hg=>?_,λhc q1 q3=>?_,λhc q1 q3 hg=>?_,λhc q1 q2=>?_⟩
  rotate_left
  rcases hg with rfl|rfl|rfl
  rotate_left 3
  rcases hg with rfl|rfl
  rotate_left 3
  rcases hg with rfl|rfl
  rotate_left 2
 all_goals
  have HM:=Hd hc;clear hc
  first
   |go_enter func81,ntmps81
   |go_enter func84,ntmps84
   |go_enter func85,ntmps85
   |go_enter func89,ntmps89
   |go_enter func90,ntmps90
   |go_enter func91,ntmps91
   |go_enter func70,ntmps70
   |go_enter func108,ntmps108
   |go_enter func92,ntmps92
   |go_enter_defers func107,ntmps107
  go_wp2_with fail
  refine HM.out.mono ?_;clear HM;rintro e w1⟨rfl,h1⟩;have H1:=Hd h1;clear h1;go_wp2
 all_goals first
  |(go_returns;exact⟨rfl,H1.out⟩)
  |(refine leaves_cons (f:=124) (args:=#[]) (by simp) (by simp[go_sem]) ?_
    refine(Ah _).mono ?_;rintro e u' w''⟨rfl,rfl,rfl⟩;simp[Leaves,settle,results,Tryz.results107,go_sem];exact H1.out)
def vI(b:Nat):Value:=.iface 87 (.pointer (some ⟨b,0,none⟩))
def ur(b:Nat):Value:=.iface 90 (.pointer (some ⟨b,0,none⟩))
def uf(b:Nat):Value:=.iface 93 (.pointer (some ⟨b,0,none⟩))
def uu(b:Nat):Value:=.iface 96 (.pointer (some ⟨b,0,none⟩))
def uW(b:Nat):Value:=.iface 99 (.pointer (some ⟨b,0,none⟩))
theorem Hn(b:Nat):Clo (vI b) b 167 165 169 171 168:=Bn (.inl ⟨rfl,rfl,rfl,rfl,rfl,rfl⟩) b
theorem GN(b:Nat):Clo (ur b) b 178 176 180 182 179:=Bn (.inr (.inl ⟨rfl,rfl,rfl,rfl,rfl,rfl⟩)) b
theorem GU(b:Nat):Clo (uf b) b 206 204 208 210 207:=Bn (.inr (.inr (.inl ⟨rfl,rfl,rfl,rfl,rfl,rfl⟩))) b
theorem GV(b:Nat):Clo (uu b) b 221 219 223 225 222:=Bn (.inr (.inr (.inr (.inl ⟨rfl,rfl,rfl,rfl,rfl,rfl⟩)))) b
theorem Ha(b:Nat):Clo (uW b) b 239 237 241 243 240:=Bn (.inr (.inr (.inr (.inr (⟨rfl,rfl,rfl,rfl,rfl,rfl⟩))))) b
end
section
open Go.RowKit
structure am(n:Nat)(r:Nat->Prop)(page:Nat->Nat)(e:Nat->Bool)(pg:Nat->Nat)(ev:Nat->Bool):Prop where
 mem:∀f,r f↔f<n/\¬pg f=0
 tp:∀f,r f->page f=pg f
 on:∀f,r f->e f=ev f
 off:∀f,¬r f->e f=false
section
variable{n k id:Nat}{r r':Nat->Prop}{page pg pg':Nat->Nat}{e ev ev':Nat->Bool}
theorem am.same(h:am n r page e pg ev)(e1:∀i,i<n->pg i=pg' i)(e2:∀i,i<n->¬pg i=0->ev i=ev' i):am n r page e pg' ev':=by
 refine⟨λf=>(h.mem f).trans ?_,λf q=>(h.tp f q).trans (e1 f ((h.mem f).1 q).1),λf q=>(h.on f q).trans (e2 f ((h.mem f).1 q).1 ((h.mem f).1 q).2),h.off⟩;constructor
 .exact λq=>⟨q.1,by rw[<-e1 f q.1];exact q.2⟩
 .exact λq=>⟨q.1,by rw[e1 f q.1];exact q.2⟩
theorem am.perm(h:am n r page e pg ev)(hr:∀x,r' x↔r x):am n r' page e pg ev:=
 ⟨λf=>(hr f).trans (h.mem f),λf q=>h.tp f ((hr f).1 q),λf q=>h.on f ((hr f).1 q),λf q=>h.off f (λp=>q ((hr f).2 p))⟩
theorem am.come(h:am n r page e pg ev)(hk:k<n)(h0:pg k=0)(h1:1<=id)(hr:∀x,r' x↔r x\/x=k):am n r' (upd page k id) e (upd pg k id) (upd ev k false):=by
 have hn:¬r k:=λq=>((h.mem k).1 q).2 h0
 refine⟨λf=>?_,λf q=>?_,λf q=>?_,λf q=>h.off f (λp=>q ((hr f).2 (.inl p)))⟩
 .rw[hr]
  by_cases c:f=k
  .subst c;rw[upd_same];exact⟨λ_=>⟨hk,by omega⟩,λ_=>.inr rfl⟩
  .rw[aa _ _ c,<-h.mem];exact⟨λq=>q.resolve_right c,.inl⟩
 .by_cases c:f=k
  .subst c;rw[upd_same,upd_same]
  .rw[aa _ _ c,aa _ _ c];exact h.tp f (((hr f).1 q).resolve_right c)
 .by_cases c:f=k
  .subst c;rw[upd_same];exact h.off f hn
  .rw[aa _ _ c];exact h.on f (((hr f).1 q).resolve_right c)
theorem am.go(h:am n r page e pg ev)(hr:∀x,r' x↔r x/\¬x=k):am n r' page (upd e k false) (upd pg k 0) (upd ev k false):=by
 refine⟨λf=>?_,λf q=>?_,λf q=>?_,λf q=>?_⟩
 .rw[hr]
  by_cases c:f=k
  .subst c;rw[upd_same];exact⟨λq=>(q.2 rfl).elim,λq=>(q.2 rfl).elim⟩
  .rw[aa _ _ c,<-h.mem];exact⟨λq=>q.1,λq=>⟨q,c⟩⟩
 .obtain⟨q1,q2⟩:=(hr f).1 q
  rw[aa _ _ q2];exact h.tp f q1
 .obtain⟨q1,q2⟩:=(hr f).1 q
  rw[aa _ _ q2,aa _ _ q2];exact h.on f q1
 .by_cases c:f=k
  .subst c;rw[upd_same]
  .rw[aa _ _ c];exact h.off f (λp=>q ((hr f).2 ⟨p,c⟩))
theorem am.set(h:am n r page e pg ev)(hk:r k)(b:Bool):am n r page (upd e k b) pg (upd ev k b):=by
 refine⟨h.mem,h.tp,λf q=>?_,λf q=>?_⟩
 .by_cases c:f=k
  .subst c;rw[upd_same,upd_same]
  .rw[aa _ _ c,aa _ _ c];exact h.on f q
 .have c:¬f=k:=λc=>q (c▸hk)
  rw[aa _ _ c];exact h.off f q
theorem am.goer(h:am n r page e pg ev){x:Nat}(hx:r x)(he:e x=true):bk n pg ev x:=⟨((h.mem x).1 hx).1,((h.mem x).1 hx).2,by rw[<-h.on x hx];exact he⟩
theorem am.at(h:am n r page e pg ev){x:Nat}(hx:bk n pg ev x):r x/\e x=true:=by
 have q:=(h.mem x).2 ⟨hx.1,hx.2.1⟩;exact⟨q,by rw[h.on x q];exact hx.2.2⟩
end
theorem kf{a b:List Nat}{p:Nat->Bool}{x:Nat}(h:(a.find? p).or (b.find? p)=some x):(x∈a\/x∈b)/\p x=true:=by
 cases e:a.find? p with
 |some y=>
  rw[e]at h;have h:y=x:=by simpa using h
  subst h;exact⟨.inl (List.mem_of_find?_eq_some e),List.find?_some e⟩
 |none=>
  rw[e]at h;have h:b.find? p=some x:=by simpa using h
  exact⟨.inr (List.mem_of_find?_eq_some h),List.find?_some h⟩
theorem cS{a b:List Nat}{p:Nat->Bool}{x:Nat}(h:(a.find? p).or (b.find? p)=none)(hx:x∈a\/x∈b):p x=false:=by
 have h1:a.find? p=none/\b.find? p=none:=by
  cases e:a.find? p with
  |some y=>rw[e]at h;cases h
  |none=>rw[e]at h;exact⟨rfl,by simpa using h⟩
 rcases hx with q|q
 .have:=List.find?_eq_none.1 h1.1 x q;simpa using this
 .have:=List.find?_eq_none.1 h1.2 x q;simpa using this
def ok4(n:Nat)(m:Nat)(t:LT)(pg:Nat->Nat)(ev:Nat->Bool):Prop:=∃page,am n (λf=>f∈t.1) page t.2 pg ev
theorem Gl(n:Nat):kQ jz (yr n) n (ok4 n) where
 more:=λh _=>h
 same:=λ⟨p,h⟩ e1 e2=>⟨p,h.same e1 e2⟩
 pMiss:=λ_ _ _ _ _ q=>(by rcases q with q|q|q<;>cases q)
 pAcc:=λ_ _ _ _ hk _ _=>hk
 pSet:=λ_ _ _ hk _ _=>hk
 pVic:=λ_ _ _ _ _ q=>(by rcases q with q|q|q<;>cases q)
 pRem:=λ_ _ hk _ _=>hk
 okMiss:=λh _ _ _=>h
 okNew:=λ⟨p,h⟩ _ h1 _ hk h0 _=>⟨_,h.come hk h0 h1 (λx=>kr)⟩
 okOld:=λ{m s pg ev id k} ⟨p,h⟩ _ h1 hk h0=>⟨p,h.perm (λx=>by
  show x∈eS s.1 k↔_
  rw[kr];exact⟨λq=>q.elim _root_.id (λq=>q▸(h.mem k).2 ⟨hk,by omega⟩),.inl⟩)⟩
 okSet:=λ{m s pg ev k} b ⟨p,h⟩ _ hk hx=>by
  have hm:k∈s.1:=(h.mem k).2 ⟨hk,hx⟩;refine⟨p,?_⟩
  show am n (λf=>f∈s.1) p (cT s.1 s.2 k b) pg _
  unfold cT;rw[if_pos hm];exact h.set hm b
 okRem:=λ{m s pg ev k} ⟨p,h⟩ _ hk hx=>by
  have hm:k∈s.1:=(h.mem k).2 ⟨hk,hx⟩;refine⟨p,?_⟩
  show am n (λf=>f∈aP s.1 k) p (cT s.1 s.2 k false) _ _
  unfold cT;rw[if_pos hm];exact h.go (λx=>fx)
 goer:=λ{m s pg ev id x} ⟨p,h⟩ hv=>by
  have hv:s.1.find? s.2=some x:=hv;exact h.goer (List.mem_of_find?_eq_some hv) (List.find?_some hv)
 some:=λ{m s pg ev id} ⟨p,h⟩ ⟨x,hx⟩ hv=>by
  have hv:s.1.find? s.2=none:=hv;obtain⟨q1,q2⟩:=h.at hx;have:=List.find?_eq_none.1 hv x q1;exact this q2
 okGone:=λ{m s pg ev id x} ⟨p,h⟩ _ h1 hn hv=>by
  have hv:cD s.1 s.2=some x:=hv;have hm:x∈s.1:=List.mem_of_find?_eq_some hv;have hg:jz.gone s id=jm s x:=by show(match cD s.1 s.2 with|none=>s|some f=>jm s f)=_;rw[hv]
  rw[hg];refine⟨p,?_⟩
  show am n (λf=>f∈aP s.1 x) p (cT s.1 s.2 x false) _ _
  unfold cT;rw[if_pos hm];exact h.go (λy=>fx)
theorem GQ(pb b n:Nat):aJ (eV jz) (As b n) pb (vI b) n (ok4 n):=pR (CV b n) (Hn b) (Gl n)
def ok6(n:Nat)(m:Nat)(t:T6)(pg:Nat->Nat)(ev:Nat->Bool):Prop:=am n (λf=>f∈t.nw\/f∈t.mn) t.page t.ev pg ev
theorem kh{a b:List Nat}{k x:Nat}:(x∈ac a k\/x∈ac b k)↔(x∈a\/x∈b)/\¬x=k:=by
 simp only[ac,List.mem_filter];by_cases c:x=k<;>simp[c]
theorem Eb{t:T6}{inn x:Nat}(h:t.goes inn=some x):(x∈t.nw\/x∈t.mn)/\t.ev x=true:=by
 unfold T6.goes at h
 split at h
 .exact kf h
 .exact(kf h).imp Or.symm id
theorem yR{t:T6}{inn x:Nat}(h:t.goes inn=none)(hx:x∈t.nw\/x∈t.mn):t.ev x=false:=by
 unfold T6.goes at h
 split at h
 .exact cS h hx
 .exact cS h hx.symm
theorem FO(n inn out:Nat):kQ (vW inn out) (Fw n) n (ok6 n) where
 more:=λh _=>h
 same:=λh e1 e2=>am.same h e1 e2
 pMiss:=λ_ _ _ _ _=>⟨λq=>(by rcases q with q|q|q<;>cases q),λq=>(by cases q)⟩
 pAcc:=λ{m s pg ev id k} h _ h1 h2 hk hx=>⟨λ_=>hk,λ_=>⟨h2,by
  rcases hx with q|⟨q,q2⟩
  .exact .inl ((h.mem k).2 ⟨hk,by omega⟩)
  .exact .inr (λg hg e=>q2 g ((h.mem g).1 hg).1 (by rw[<-h.tp g hg];exact e))⟩⟩
 pSet:=λ_ _ _ hk _=>⟨λ_=>hk,λq=>(by cases q)⟩
 pVic:=λ_ _ _ _ _=>⟨λq=>(by rcases q with q|q|q<;>cases q),λq=>(by cases q)⟩
 pRem:=λ_ _ hk _=>⟨λ_=>hk,λq=>(by cases q)⟩
 okMiss:=λh _ _ _=>h
 okNew:=λ{m s pg ev id k} h _ h1 _ hk h0 _=>by
  have hn:¬(k∈s.nw\/k∈s.mn):=λq=>((h.mem k).1 q).2 h0
  show ok6 n _ (s.acc k id) _ _
  unfold T6.acc;rw[if_neg (λq=>hn (.inl q)),if_neg (λq=>hn (.inr q))];unfold T6.come
  split
  .exact am.come h hk h0 h1 (λx=>by simp only[List.mem_append,List.mem_singleton,or_assoc])
  .exact am.come h hk h0 h1 (λx=>by simp only[List.mem_append,List.mem_singleton];exact or_right_comm)
 okOld:=λ{m s pg ev id k} h _ h1 hk h0=>by
  have hn:k∈s.nw\/k∈s.mn:=(h.mem k).2 ⟨hk,by omega⟩
  show ok6 n _ (s.acc k id) _ _
  unfold T6.acc
  split
  .exact h
  .rename_i q
   have hm:=hn.resolve_left q;rw[if_pos hm];refine am.perm h (λx=>?_);simp only[List.mem_append,List.mem_singleton,ac,List.mem_filter];by_cases c:x=k
   .subst c;simp[hm]
   .simp[c]
 okSet:=λ{m s pg ev k} b h _ hk hx=>by
  have hn:k∈s.nw\/k∈s.mn:=(h.mem k).2 ⟨hk,hx⟩
  show ok6 n _ (s.setE k b) _ _
  unfold T6.setE;rw[if_pos hn];exact am.set h hn b
 okRem:=λ{m s pg ev k} h _ hk hx=>by
  have hn:k∈s.nw\/k∈s.mn:=(h.mem k).2 ⟨hk,hx⟩
  show ok6 n _ (s.rem k) _ _
  unfold T6.rem;rw[if_pos hn];exact am.go h (λx=>kh)
 goer:=λ{m s pg ev id x} h hv=>by
  obtain⟨q1,q2⟩:=Eb (show s.goes inn=some x from hv);exact am.goer h q1 q2
 some:=λ{m s pg ev id} h ⟨x,hx⟩ hv=>by
  obtain⟨q1,q2⟩:=am.at h hx;have:=yR (show s.goes inn=none from hv) q1;rw[this]at q2;cases q2
 okGone:=λ{m s pg ev id x} h _ h1 hn hv=>by
  have hv:s.goes inn=some x:=hv;obtain⟨q1,_⟩:=Eb hv;have hg:(vW inn out).gone s id=s.gone out x:=by show(match s.goes inn with|none=>s|some f=>s.gone out f)=_;rw[hv]
  rw[hg];unfold T6.gone T6.rem
  repeat' split
  all_goals first|exact am.go h (λx=>kh)|exact absurd q1 (by assumption)
theorem Hr(pb b n inn out:Nat):aJ (eV (vW inn out)) (CRT b n inn out) pb (uf b) n (ok6 n):=pR (GC b n inn out) (GU b) (FO n inn out)
def ok7(n:Nat)(m:Nat)(t:T7)(pg:Nat->Nat)(ev:Nat->Bool):Prop:=am n (λf=>f∈t.nw\/f∈t.mn) t.page t.ev pg ev
theorem DW{t:T7}{id x:Nat}(h:t.goes id=some x):(x∈t.nw\/x∈t.mn)/\t.ev x=true:=by
 unfold T7.goes T7.goesC at h
 split at h
 .exact kf h
 .exact(kf h).imp Or.symm _root_.id
theorem zA{t:T7}{id x:Nat}(h:t.goes id=none)(hx:x∈t.nw\/x∈t.mn):t.ev x=false:=by
 unfold T7.goes T7.goesC at h
 split at h
 .exact cS h hx
 .exact cS h hx.symm
theorem Gp(n:Nat):kQ (xe n) (GK n) n (ok7 n) where
 more:=λh _=>h
 same:=λh e1 e2=>am.same h e1 e2
 pMiss:=λ_ _ _ h2 _=>⟨λq=>(by rcases q with q|q|q<;>cases q),λq=>(by cases q),λ_=>h2⟩
 pAcc:=λ{m s pg ev id k} h _ h1 h2 hk hx=>⟨λ_=>hk,λ_=>⟨h2,by
  rcases hx with q|⟨q,q2⟩
  .exact .inl ((h.mem k).2 ⟨hk,by omega⟩)
  .exact .inr (λg hg e=>q2 g ((h.mem g).1 hg).1 (by rw[<-h.tp g hg];exact e))⟩,λq=>(by rcases q with q|q<;>cases q)⟩
 pSet:=λ_ _ _ hk _=>⟨λ_=>hk,λq=>(by cases q),λq=>(by rcases q with q|q<;>cases q)⟩
 pVic:=λ_ _ _ h2 _=>⟨λq=>(by rcases q with q|q|q<;>cases q),λq=>(by cases q),λ_=>h2⟩
 pRem:=λ_ _ hk _=>⟨λ_=>hk,λq=>(by cases q),λq=>(by rcases q with q|q<;>cases q)⟩
 okMiss:=λ{m s pg ev id} h _ _ _=>by
  show ok7 n _ (s.miss n id) _ _
  unfold T7.miss
  repeat' split
  all_goals exact h
 okNew:=λ{m s pg ev id k} h _ h1 _ hk h0 _=>by
  have hn:¬(k∈s.nw\/k∈s.mn):=λq=>((h.mem k).1 q).2 h0
  show ok7 n _ (s.acc k id) _ _
  unfold T7.acc;rw[if_neg hn]
  split
  .exact am.come h hk h0 h1 (λx=>by simp only[List.mem_append,List.mem_singleton,or_assoc])
  .exact am.come h hk h0 h1 (λx=>by simp only[List.mem_append,List.mem_singleton];exact or_right_comm)
 okOld:=λ{m s pg ev id k} h _ h1 hk h0=>by
  have hn:k∈s.nw\/k∈s.mn:=(h.mem k).2 ⟨hk,by omega⟩
  show ok7 n _ (s.acc k id) _ _
  unfold T7.acc;rw[if_pos hn];refine am.perm h (λx=>?_);simp only[List.mem_append,List.mem_singleton,ac,List.mem_filter];by_cases c:x=k
  .subst c;simp[hn]
  .simp[c]
 okSet:=λ{m s pg ev k} b h _ hk hx=>by
  have hn:k∈s.nw\/k∈s.mn:=(h.mem k).2 ⟨hk,hx⟩
  show ok7 n _ (s.setE k b) _ _
  unfold T7.setE;rw[if_pos hn];exact am.set h hn b
 okRem:=λ{m s pg ev k} h _ hk hx=>by
  have hn:k∈s.nw\/k∈s.mn:=(h.mem k).2 ⟨hk,hx⟩
  show ok7 n _ (s.rem k) _ _
  unfold T7.rem;rw[if_pos hn];exact am.go h (λx=>kh)
 goer:=λ{m s pg ev id x} h hv=>by
  obtain⟨q1,q2⟩:=DW (show s.goes id=some x from hv);exact am.goer h q1 q2
 some:=λ{m s pg ev id} h ⟨x,hx⟩ hv=>by
  obtain⟨q1,q2⟩:=am.at h hx;have:=zA (show s.goes id=none from hv) q1;rw[this]at q2;cases q2
 okGone:=λ{m s pg ev id x} h _ h1 hn hv=>by
  have hv:s.goes id=some x:=hv;obtain⟨q1,_⟩:=DW hv;have hg:(xe n).gone s id=s.gone n id x:=by show(match s.goes id with|none=>s|some f=>s.gone n id f)=_;rw[hv]
  rw[hg];unfold T7.gone T7.rem T7.keep
  repeat' split
  all_goals first|exact am.go h (λx=>kh)|exact absurd q1 (by assumption)
theorem Hc(pb b n:Nat):aJ (eV (xe n)) (CRA b n) pb (uu b) n (ok7 n):=pR (FB b n) (GV b) (Gp n)
def ok8(n:Nat)(m:Nat)(s:PrS)(pg:Nat->Nat)(ev:Nat->Bool):Prop:=PK n n s/\PM n s/\(∀f,f<n->s.pg f=pg f)/\∀f,f<n->¬pg f=0->s.on f=ev f
theorem Fz(n:Nat):kQ (yh n) (Gj n) n (ok8 n) where
 more:=λh _=>h
 same:=λ⟨h1,h2,h3,h4⟩ e1 e2=>⟨h1,h2,λf hf=>(h3 f hf).trans (e1 f hf),λf hf q=>(h4 f hf (by rw[e1 f hf];exact q)).trans (e2 f hf (by rw[e1 f hf];exact q))⟩
 pMiss:=λ_ _ _ _ _=>⟨λq=>(by cases q),λq=>(by cases q),λq=>(by cases q)⟩
 pAcc:=λ{m s pg ev id k} ⟨h1,h2,h3,h4⟩ _ a1 a2 hk hx=>⟨λ_=>⟨hk,a1,a2,by
  show s.pg k=id\/s.pg k=0/\∀f,f<n->¬s.pg f=id
  rw[h3 k hk];exact hx.imp _root_.id (λq=>⟨q.1,λf hf=>by rw[h3 f hf];exact q.2 f hf⟩)⟩,λq=>(by cases q),λq=>(by cases q)⟩
 pSet:=λ{m s pg ev k} b ⟨h1,h2,h3,h4⟩ _ hk hx=>⟨λq=>(by cases q),λ_=>⟨hk,by show¬s.pg k=0;rw[h3 k hk];exact hx⟩,λq=>(by cases q)⟩
 pVic:=λ_ _ _ _ _=>⟨λq=>(by cases q),λq=>(by cases q),λq=>(by cases q)⟩
 pRem:=λ{m s pg ev k} ⟨h1,h2,h3,h4⟩ _ hk hx=>⟨λq=>(by cases q),λq=>(by cases q),λ_=>⟨hk,by show¬s.pg k=0;rw[h3 k hk];exact hx⟩⟩
 okMiss:=λh _ _ _=>h
 okNew:=λ{m s pg ev id k} ⟨h1,h2,h3,h4⟩ _ a1 a2 hk h0 hn=>by
  obtain⟨k1,k2,k3,k4⟩:=lK h1 h2 hk (by rw[h3 k hk];exact h0) a1 a2 (λf hf=>by rw[h3 f hf];exact hn f hf);have hon:=(h2.p0 k hk (Be h1 h2 (by rw[h3 k hk];exact h0))).2;refine⟨k1,k2,λf hf=>?_,λf hf q=>?_⟩
  .show(s.access n k id).pg f=upd pg k id f
   rw[k3];by_cases e:f=k
   .subst e;rw[upd_same,upd_same]
   .rw[aa _ _ e,aa _ _ e];exact h3 f hf
  .show(s.access n k id).on f=upd ev k false f
   rw[k4];by_cases e:f=k
   .subst e;rw[upd_same];exact hon
   .rw[aa _ _ e]at q;rw[aa _ _ e];exact h4 f hf q
 okOld:=λ{m s pg ev id k} ⟨h1,h2,h3,h4⟩ _ a1 hk h0=>by
  obtain⟨k1,k2,k3,k4,_⟩:=kB h1 h2 hk (by rw[h3 k hk];exact h0) a1;refine⟨k1,k2,λf hf=>?_,λf hf q=>?_⟩
  .show(s.access n k id).pg f=pg f
   rw[k3];by_cases e:f=k
   .subst e;rw[upd_same];exact h0.symm
   .rw[aa _ _ e];exact h3 f hf
  .show(s.access n k id).on f=ev f
   rw[k4];exact h4 f hf q
 okSet:=λ{m s pg ev k} b ⟨h1,h2,h3,h4⟩ _ hk hx=>by
  obtain⟨k1,k2⟩:=zb h1 h2 hk (by rw[h3 k hk];exact hx) b;refine⟨k1,k2,h3,λf hf q=>?_⟩
  show upd s.on k b f=upd ev k b f
  by_cases e:f=k
  .subst e;rw[upd_same,upd_same]
  .rw[aa _ _ e,aa _ _ e];exact h4 f hf q
 okRem:=λ{m s pg ev k} ⟨h1,h2,h3,h4⟩ _ hk hx=>by
  obtain⟨k1,k2,k3,k4⟩:=th h1 h2 hk (by rw[h3 k hk];exact hx);refine⟨k1,k2,λf hf=>?_,λf hf q=>?_⟩
  .show(s.rem k).pg f=upd pg k 0 f
   rw[k3];by_cases e:f=k
   .subst e;rw[upd_same,upd_same]
   .rw[aa _ _ e,aa _ _ e];exact h3 f hf
  .show(s.rem k).on f=upd ev k false f
   rw[k4];by_cases e:f=k
   .subst e;rw[upd_same,upd_same]
   .rw[aa _ _ e]at q;rw[aa _ _ e,aa _ _ e];exact h4 f hf q
 goer:=λ{m s pg ev id x} ⟨h1,h2,h3,h4⟩ hv=>by
  have hv:(polP n).victim s id=some x:=hv;rw[(s9 s id).1]at hv;by_cases q:s.sizeN n=0
  .rw[if_pos q]at hv;cases hv
  .rw[if_neg q]at hv
   simp only[Option.some.injEq]at hv;obtain⟨_,_,k3,k4,k5,_,_⟩:=oy h1 h2 q;rw[hv]at k3 k4 k5;rw[h3 x k3]at k4;exact⟨k3,k4,by rw[<-h4 x k3 k4];exact k5⟩
 some:=λ{m s pg ev id} ⟨h1,h2,h3,h4⟩ ⟨x,g1,g2,g3⟩ hv=>by
  have hv:(polP n).victim s id=none:=hv;rw[(s9 s id).1]at hv;by_cases q:s.sizeN n=0
  .have:=wJ q g1 (by rw[h3 x g1];exact g2)
   rw[h4 x g1 g2,g3]at this;cases this
  .rw[if_neg q]at hv;cases hv
 okGone:=λ{m s pg ev id x} ⟨h1,h2,h3,h4⟩ _ a1 hn hv=>by
  have hv:(polP n).victim s id=some x:=hv;rw[(s9 s id).1]at hv;by_cases q:s.sizeN n=0
  .rw[if_pos q]at hv;cases hv
  .rw[if_neg q]at hv
   simp only[Option.some.injEq]at hv;obtain⟨k1,k2,k3,k4,k5,k6,k7⟩:=oy h1 h2 q;rw[hv]at k6 k7;have hg:(yh n).gone s id=iH (s.vic n):=(s9 s id).2;rw[hg];refine⟨k1,k2,λf hf=>?_,λf hf q=>?_⟩
   .rw[k6]
    by_cases e:f=x
    .subst e;rw[upd_same,upd_same]
    .rw[aa _ _ e,aa _ _ e];exact h3 f hf
   .rw[k7]
    by_cases e:f=x
    .subst e;rw[upd_same,upd_same]
    .rw[aa _ _ e]at q;rw[aa _ _ e,aa _ _ e];exact h4 f hf q
theorem G9(pb b n:Nat)(hn:n<=65535):aJ (eV (yh n)) (CRP b n) pb (uW b) n (ok8 n):=pR (Hm b n hn) (Ha b) (Fz n)
structure Ok5(n:Nat)(m:Nat)(s:LK)(pg:Nat->Nat)(ev:Nat->Bool):Prop where
 en:s.n=n
 T:s.T<=m
 g:s.gone<=m
 f1:∀f,f<n->(s.fr f).1=!decide (pg f=0)
 f2:∀f,f<n->¬pg f=0->(s.fr f).2=pg f
 R:∀f,(s.R f).isSome=true↔bk n pg ev f
 t:s.t=bo s.R s.n
 O:∀f,f<n->¬pg f=0->∀p∈s.Old,¬p.1=pg f
 ij:∀f g,f<n->g<n->¬pg f=0->pg f=pg g->f=g
def ok5(n:Nat)(m:Nat)(s:LK)(pg:Nat->Nat)(ev:Nat->Bool):Prop:=Ok5 n m s pg ev
theorem rt{s:LK}{id:Nat}(h0:¬s.t=0)(q:¬∃x,Goes s x):fL.victim s id=none:=by
 unfold fL
 dsimp only
 rw[if_neg h0,dif_neg q]
theorem yT{s:LK}{z:Nat}(hn:∀x,(s.R x).isSome=true->x<s.n)(hzs:(s.R z).isSome=true):∃x,Goes s x:=by
 by_cases hf:∃y,(farK s.R (farOf s) y).isSome=true
 .obtain⟨y,hy⟩:=hf
  obtain⟨x,hx⟩:=gI (farK s.R (farOf s)) s.n (λx q=>hn x (by unfold farK at q;split at q;exact q;cases q)) hy;exact⟨x,.inl hx⟩
 .have hall:∀y,farK s.R (farOf s) y=none:=λy=>by
   cases e:farK s.R (farOf s) y with
   |none=>rfl
   |some p=>exact(hf ⟨y,by rw[e];rfl⟩).elim
  have hfz:(freshK s.R (farOf s) z).isSome=true:=by
   have h1:=hall z;unfold farK at h1;unfold freshK
   cases e:farOf s z with
   |true=>rw[e,if_pos rfl]at h1;rw[h1]at hzs;cases hzs
   |false=>exact hzs
  obtain⟨x,hx⟩:=gI (freshK s.R (farOf s)) s.n (λx q=>hn x (by
   unfold freshK at q
   split at q
   .cases q
   .exact q)) hfz
  exact⟨x,.inr ⟨hall,hx⟩⟩
section
variable{n m k id:Nat}{s s':LK}{pg pg':Nat->Nat}{ev ev':Nat->Bool}
theorem Ok5.lt(h:Ok5 n m s pg ev){x:Nat}(q:(s.R x).isSome=true):x<n:=((h.R x).1 q).1
theorem Ok5.rank(h:Ok5 n m s pg ev)(e1:s'.n=s.n)(e2:s'.T<=m+1)(e3:s'.gone=s.gone)(e4:s'.fr=s.fr)(e5:∀x,(s'.R x).isSome=(s.R x).isSome)(e6:s'.t=s.t)(e7:∀p∈s'.Old,p∈s.Old):Ok5 n (m+1) s' pg ev:=by
 refine⟨by rw[e1];exact h.en,e2,by have:=h.g;omega,λf hf=>by rw[e4];exact h.f1 f hf,λf hf=>by rw[e4];exact h.f2 f hf,λf=>by rw[e5];exact h.R f,?_,λf hf q p hp=>h.O f hf q p (e7 p hp),h.ij⟩;rw[e6,h.t,e1]
 have:∀j,bo s.R j=bo s'.R j:=λj=>by
  induction j with
  |zero=>rfl
  |succ j ih=>unfold bo;rw[ih,e5]
 exact this _
theorem mN(hpg:∀i,i<n->pg i=pg' i)(hev:∀i,i<n->¬pg i=0->ev i=ev' i)(x:Nat):bk n pg ev x↔bk n pg' ev' x:=by
 unfold bk;constructor
 .rintro⟨a,b,c⟩;exact⟨a,by rw[<-hpg x a];exact b,by rw[<-hev x a b];exact c⟩
 .rintro⟨a,b,c⟩
  have b':¬pg x=0:=by rw[hpg x a];exact b
  exact⟨a,b',by rw[hev x a b'];exact c⟩
theorem DP(s:LK)(k id:Nat):(accS s k id).n=s.n/\(accS s k id).T=s.T+1/\(accS s k id).gone=s.gone/\(accS s k id).t=s.t/\(accS s k id).fr=(bH s k id).fr/\(accS s k id).Old=(bH s k id).Old/\∀x,((accS s k id).R x).isSome=(s.R x).isSome:=by
 have hR:∀(S:LK) (x:Nat),((dG S k).R x).isSome=(S.R x).isSome:=λS x=>by
  unfold dG
  split
  .rename_i q
   show(updKK S.R k _ x).isSome=_
   by_cases c:x=k
   .subst c;rw[az];rw[q];rfl
   .rw[ao _ _ c]
  .rfl
 have hr:∀S:LK,(dG S k).n=S.n/\(dG S k).T=S.T/\(dG S k).gone=S.gone/\(dG S k).t=S.t/\(dG S k).fr=S.fr/\(dG S k).Old=S.Old:=λS=>by
  unfold dG;split<;>exact⟨rfl,rfl,rfl,rfl,rfl,rfl⟩
 have hc:(bH s k id).n=s.n/\(bH s k id).T=s.T/\(bH s k id).gone=s.gone/\(bH s k id).t=s.t/\(bH s k id).R=s.R:=by
  unfold bH;split<;>exact⟨rfl,rfl,rfl,rfl,rfl⟩
 unfold accS;obtain⟨r1,r2,r3,r4,r5,r6⟩:=hr (touS (bH s k id) ((bH s k id).fr k).2);obtain⟨c1,c2,c3,c4,c5⟩:=hc;refine⟨r1.trans c1,r2.trans (by show(bH s k id).T+1=_;rw[c2]),r3.trans c3,r4.trans c4,r5,r6,λx=>?_⟩;rw[hR]
 show((bH s k id).R x).isSome=_
 rw[c5]
theorem A0{l:List (Nat×Nat)}{x:Nat}{p:Nat×Nat}:p∈woO l x↔p∈l/\¬p.1=x:=by
 unfold woO;rw[List.mem_filter];simp
end
theorem FU(n:Nat):kQ fL GD n (ok5 n) where
 more:=λ{m k s pg ev} h hk=>⟨h.en,Nat.le_trans h.T hk,Nat.le_trans h.g hk,h.f1,h.f2,h.R,h.t,h.O,h.ij⟩
 same:=λ{m s pg pg' ev ev'} h e1 e2=>⟨h.en,h.T,h.g,λf hf=>by rw[<-e1 f hf];exact h.f1 f hf,λf hf q=>by rw[<-e1 f hf]at q⊢;exact h.f2 f hf q,λf=>(h.R f).trans (mN e1 e2 f),h.t,λf hf q=>by rw[<-e1 f hf]at q⊢;exact h.O f hf q,λf g hf hg q e=>by rw[<-e1 f hf]at q e;rw[<-e1 g hg]at e;exact h.ij f g hf hg q e⟩
 pMiss:=λ_ _ _ _ _=>⟨λq=>(by cases q),λq=>(by cases q),λq=>(by cases q),λq=>(by cases q)⟩
 pAcc:=λ{m s pg ev id k} h hm _ h2 hk _=>⟨λ_=>⟨by show k<s.n;rw[h.en];exact hk,h2,by have:=h.T;show s.T<_;omega⟩,λq=>(by cases q),λq=>(by cases q),λq=>(by cases q)⟩
 pSet:=λ{m s pg ev k} b h hm hk hx=>⟨λq=>(by cases q),λ_=>⟨by show k<s.n;rw[h.en];exact hk,by show(s.fr k).1=true;rw[h.f1 k hk];simp[hx],by have:=h.T;show s.T<_;omega⟩,λq=>(by cases q),λq=>(by cases q)⟩
 pVic:=λ{m s pg ev id} h hm _ _ _=>⟨λq=>(by cases q),λq=>(by cases q),λ_=>⟨by have:=h.T;show s.T<_;omega,by have:=h.g;show s.gone+1<_;omega,λx hx=>by
  obtain⟨g1,g2,_⟩:=(h.R x).1 hx;exact⟨by rw[h.en];exact g1,jr.2 (λp hp=>by rw[h.f2 x g1 g2];exact h.O x g1 g2 p hp)⟩⟩,λq=>(by cases q)⟩
 pRem:=λ{m s pg ev k} h hm hk hx=>⟨λq=>(by cases q),λq=>(by cases q),λq=>(by cases q),λ_=>⟨by show k<s.n;rw[h.en];exact hk,by show(s.fr k).1=true;rw[h.f1 k hk];simp[hx]⟩⟩
 okMiss:=λ{m s pg ev id} h _ _ _=>⟨h.en,Nat.le_succ_of_le h.T,Nat.le_succ_of_le h.g,h.f1,h.f2,h.R,h.t,h.O,h.ij⟩
 okNew:=λ{m s pg ev id k} h _ h1 _ hk h0 hn=>by
  obtain⟨a1,a2,a3,a4,a5,a6,a7⟩:=DP s k id;have hf:(s.fr k).1=false:=by rw[h.f1 k hk];simp[h0]
  have hc:bH s k id={s with fr:=dd s.fr k (true,id),Old:=woO s.Old id}:=by unfold bH;rw[hf];rfl
  rw[hc]at a5 a6;refine⟨by show(accS s k id).n=n;rw[a1];exact h.en,by show(accS s k id).T<=_;rw[a2];have:=h.T;omega,by show(accS s k id).gone<=_;rw[a3];exact Nat.le_succ_of_le h.g,λf hf=>?_,λf hf q=>?_,λf=>?_,?_,λf hf q p hp=>?_,λf g hf hg q e=>?_⟩
  .show((accS s k id).fr f).1=_
   rw[a5]
   show(dd s.fr k (true,id) f).1=_
   by_cases c:f=k
   .subst c;rw[dc,upd_same];simp;omega
   .rw[ca _ _ c,aa _ _ c];exact h.f1 f hf
  .show((accS s k id).fr f).2=_
   rw[a5]
   show(dd s.fr k (true,id) f).2=_
   by_cases c:f=k
   .subst c;rw[dc,upd_same]
   .rw[aa _ _ c]at q;rw[ca _ _ c,aa _ _ c];exact h.f2 f hf q
  .show((accS s k id).R f).isSome=true↔_
   rw[a7,h.R];unfold bk;by_cases c:f=k
   .subst c;rw[upd_same,upd_same];exact⟨λq=>(q.2.1 h0).elim,λq=>(by cases q.2.2)⟩
   .rw[aa _ _ c,aa _ _ c]
  .show(accS s k id).t=bo (accS s k id).R (accS s k id).n
   rw[a4,a1,h.t]
   have:∀j,bo s.R j=bo (accS s k id).R j:=λj=>by
    induction j with
    |zero=>rfl
    |succ j ih=>unfold bo;rw[ih,a7]
   exact this _
  .have hp:p∈(accS s k id).Old:=hp
   rw[a6]at hp;obtain⟨p1,p2⟩:=A0.1 hp;by_cases c:f=k
   .subst c;rw[upd_same];exact p2
   .rw[aa _ _ c]at q⊢;exact h.O f hf q p p1
  .by_cases c:f=k
   .by_cases d:g=k
    .rw[c,d]
    .rw[c,upd_same,aa _ _ d]at e;exact(hn g hg e.symm).elim
   .by_cases d:g=k
    .rw[d,upd_same,aa _ _ c]at e;exact(hn f hf e).elim
    .rw[aa _ _ c]at q e;rw[aa _ _ d]at e;exact h.ij f g hf hg q e
 okOld:=λ{m s pg ev id k} h _ h1 hk h0=>by
  obtain⟨a1,a2,a3,a4,a5,a6,a7⟩:=DP s k id;have hf:(s.fr k).1=true:=by rw[h.f1 k hk];simp;omega
  have hc:bH s k id=s:=by unfold bH;rw[hf];rfl
  rw[hc]at a5 a6;exact h.rank (s':={accS s k id with Fa:=λ_=>false}) a1 (by show(accS s k id).T<=_;rw[a2];have:=h.T;omega) a3 a5 a7 a4 (λp hp=>by have hp:p∈(accS s k id).Old:=hp;rw[a6]at hp;exact hp)
 okSet:=λ{m s pg ev k} b h _ hk hx=>by
  have hks:k<s.n:=by rw[h.en];exact hk
  have hG:(s.R k).isSome=ev k:=by
   cases e:ev k with
   |true=>exact(h.R k).2 ⟨hk,hx,e⟩
   |false=>
    cases c:(s.R k).isSome with
    |false=>rfl
    |true=>have:=((h.R k).1 c).2.2;rw[e]at this;cases this
  show ok5 n (m+1) ({setS s k b with Fa:=λ_=>false}:LK) pg (upd ev k b)
  unfold setS;by_cases c:(s.R k).isSome=b
  .rw[if_pos c]
   refine⟨h.en,Nat.le_succ_of_le h.T,Nat.le_succ_of_le h.g,h.f1,h.f2,λf=>(h.R f).trans (mN (λ_ _=>rfl) (λi _ _=>?_) f),h.t,h.O,h.ij⟩;by_cases d:i=k
   .subst d;rw[upd_same,<-c,hG]
   .rw[aa _ _ d]
  .rw[if_neg c]
   have hR:∀(y:Option (Int×Int)),y.isSome=b->∀f,(updKK s.R k y f).isSome=true↔bk n pg (upd ev k b) f:=λy hy f=>by
    by_cases d:f=k
    .subst d
     rw[az,hy];unfold bk;rw[upd_same];exact⟨λq=>⟨hk,hx,q⟩,λq=>q.2.2⟩
    .rw[ao _ _ d,h.R]
     unfold bk;rw[aa _ _ d]
   cases b with
   |true=>
    rw[if_pos rfl];refine⟨h.en,Nat.le_succ_of_le h.T,Nat.le_succ_of_le h.g,h.f1,h.f2,hR _ rfl,?_,h.O,h.ij⟩
    show s.t+1=bo (updKK s.R k _) s.n
    rw[lE _ _ hks,h.t];have:(s.R k).isSome=false:=by simpa using c
    rw[this];rfl
   |false=>
    rw[if_neg (by simp)];refine⟨h.en,Nat.le_succ_of_le h.T,Nat.le_succ_of_le h.g,h.f1,h.f2,hR _ rfl,?_,h.O,h.ij⟩
    show s.t-1=bo (updKK s.R k _) s.n
    rw[cX _ hks,h.t]
    have:(s.R k).isSome=true:=by
     cases e:(s.R k).isSome with
     |true=>rfl
     |false=>exact(c e).elim
    rw[this];rfl
 okRem:=λ{m s pg ev k} h _ hk hx=>by
  have hks:k<s.n:=by rw[h.en];exact hk
  show ok5 n (m+1) ({remvS s k with Fa:=λ_=>false}:LK) _ _
  unfold remvS;refine⟨h.en,Nat.le_succ_of_le h.T,Nat.le_succ_of_le h.g,λf hf=>?_,λf hf q=>?_,λf=>?_,?_,λf hf q p hp=>?_,λf g hf hg q e=>?_⟩
  .show(dd s.fr k _ f).1=_
   by_cases c:f=k
   .subst c;rw[dc,upd_same];rfl
   .rw[ca _ _ c,aa _ _ c];exact h.f1 f hf
  .show(dd s.fr k _ f).2=_
   by_cases c:f=k
   .subst c;rw[upd_same]at q;exact(q rfl).elim
   .rw[aa _ _ c]at q;rw[ca _ _ c,aa _ _ c];exact h.f2 f hf q
  .show(updKK s.R k none f).isSome=true↔_
   unfold bk;by_cases c:f=k
   .subst c;rw[az,upd_same];exact⟨λq=>(by cases q),λq=>(q.2.1 rfl).elim⟩
   .rw[ao _ _ c,aa _ _ c,aa _ _ c];exact h.R f
  .show lessN s.t (s.R k).isSome=bo (updKK s.R k none) s.n
   rw[cX _ hks,h.t]
  .by_cases c:f=k
   .subst c;rw[upd_same]at q;exact(q rfl).elim
   .rw[aa _ _ c]at q⊢;exact h.O f hf q p hp
  .by_cases c:f=k
   .subst c;rw[upd_same]at q;exact(q rfl).elim
   .by_cases d:g=k
    .rw[d,upd_same]at e;exact(q e).elim
    .rw[aa _ _ c]at q e;rw[aa _ _ d]at e;exact h.ij f g hf hg q e
 goer:=λ{m s pg ev id x} h hv=>by
  have hv:fL.victim s id=some x:=hv;by_cases h0:s.t=0
  .have:fL.victim s id=none:=if_pos h0
   rw[this]at hv;cases hv
  .have hex:∃x,Goes s x:=by
    apply Classical.byContradiction;intro q
    have:fL.victim s id=none:=by
     show fL.victim s id=none
     exact rt h0 q
    rw[this]at hv;cases hv
   obtain⟨y,hy⟩:=hex;rw[(dQ (by omega) hy).1]at hv
   injection hv with hv
   subst hv;exact(h.R y).1 (bj.some hy)
 some:=λ{m s pg ev id} h ⟨x,hx⟩ hv=>by
  have hR:=(h.R x).2 hx;have h0:0<s.t:=by rw[h.t];exact kL _ (by rw[h.en];exact hx.1) hR
  obtain⟨y,hy⟩:=yT (s:=s) (λx q=>by rw[h.en];exact h.lt q) hR;have hv:fL.victim s id=none:=hv;rw[(dQ h0 hy).1]at hv
  cases hv
 okGone:=λ{m s pg ev id x} h _ h1 hn hv=>by
  have hv:fL.victim s id=some x:=hv
  have h0:¬s.t=0:=λh0=>by
   have:fL.victim s id=none:=if_pos h0;rw[this]at hv;cases hv
  have hex:∃x,Goes s x:=by
   apply Classical.byContradiction;intro q
   have:fL.victim s id=none:=by
    exact rt h0 q
   rw[this]at hv;cases hv
  obtain⟨y,hy⟩:=hex;obtain⟨g1,g2⟩:=dQ (page:=id) (show 0<s.t by omega) hy;rw[g1]at hv
  injection hv with hv
  subst hv;rw[g2];have hRy:=bj.some hy;obtain⟨b1,b2,b3⟩:=(h.R y).1 hRy;have hys:y<s.n:=by rw[h.en];exact b1
  obtain⟨v1,v2,v3,v4,_⟩:=mY s y s.Fa
  have w1:(vicS s y s.Fa).n=s.n/\(vicS s y s.Fa).fr=dd s.fr y (false,(s.fr y).2)/\(vicS s y s.Fa).t=s.t-1/\∀p∈(vicS s y s.Fa).Old,p∈s.Old\/p.1=(s.fr y).2:=by
   unfold vicS yg
   split
   .refine⟨rfl,rfl,rfl,λp hp=>?_⟩
    have hp:p∈(s.Old++[((s.fr y).2,s.gone+1)]).tail:=hp;rcases List.mem_append.1 (List.mem_of_mem_tail hp)with q|q
    .exact .inl q
    .rw[List.mem_singleton.1 q];exact .inr rfl
   .refine⟨rfl,rfl,rfl,λp hp=>?_⟩
    have hp:p∈s.Old++[((s.fr y).2,s.gone+1)]:=hp;rcases List.mem_append.1 hp with q|q
    .exact .inl q
    .rw[List.mem_singleton.1 q];exact .inr rfl
  obtain⟨w1,w2,w3,w4⟩:=w1;refine⟨by show(vicS s y s.Fa).n=n;rw[w1];exact h.en,by show(vicS s y s.Fa).T<=_;rw[v2];exact Nat.le_succ_of_le h.T,by show(vicS s y s.Fa).gone<=_;rw[v4];have:=h.g;omega,λf hf=>?_,λf hf q=>?_,λf=>?_,?_,λf hf q p hp=>?_,λf g hf hg q e=>?_⟩
  .show((vicS s y s.Fa).fr f).1=_
   rw[w2];by_cases c:f=y
   .subst c;rw[dc,upd_same];rfl
   .rw[ca _ _ c,aa _ _ c];exact h.f1 f hf
  .show((vicS s y s.Fa).fr f).2=_
   rw[w2];by_cases c:f=y
   .subst c;rw[upd_same]at q;exact(q rfl).elim
   .rw[aa _ _ c]at q;rw[ca _ _ c,aa _ _ c];exact h.f2 f hf q
  .show((vicS s y s.Fa).R f).isSome=true↔_
   rw[v1];unfold bk;by_cases c:f=y
   .subst c;rw[az,upd_same];exact⟨λq=>(by cases q),λq=>(q.2.1 rfl).elim⟩
   .rw[ao _ _ c,aa _ _ c,aa _ _ c];exact h.R f
  .show(vicS s y s.Fa).t=bo (vicS s y s.Fa).R (vicS s y s.Fa).n
   rw[w3,v1,w1,cX _ hys,h.t,hRy];rfl
  .have hp:p∈(vicS s y s.Fa).Old:=hp
   by_cases c:f=y
   .subst c;rw[upd_same]at q;exact(q rfl).elim
   .rw[aa _ _ c]at q⊢
    rcases w4 p hp with r|r
    .exact h.O f hf q p r
    .rw[r,h.f2 y b1 b2]
     exact λe=>c (h.ij f y hf b1 q e.symm)
  .by_cases c:f=y
   .subst c;rw[upd_same]at q;exact(q rfl).elim
   .by_cases d:g=y
    .rw[d,upd_same]at e;exact(q e).elim
    .rw[aa _ _ c]at q e;rw[aa _ _ d]at e;exact h.ij f g hf hg q e
theorem Hg(pb lb n:Nat):aJ (eV fL) (CR5 lb) pb (ur lb) n (ok5 n):=pR (Hi lb) (GN lb) (FU n)
end
end Go.Proofs.YtoenclhimbpfeaaGreatDoor
