/- Part 27. -/
import Derived.Test.YtoenclhimbpfeaaGreatDoorC18
import Derived.Test.YtoenclhimbpfeaaGreatDoorC21
import Derived.Test.YtoenclhimbpfeaaGreatDoorC26
namespace Go.Proofs.YtoenclhimbpfeaaGreatDoor
set_option linter.all false
set_option maxHeartbeats 16000000
set_option maxRecDepth 100000
section
open Go.RowKit
structure RowsOk(n:Nat)(r:Nat->Prop)(page:Nat->Nat)(e:Nat->Bool)(pg:Nat->Nat)(ev:Nat->Bool):Prop where
 mem:∀f,r f↔f<n∧¬pg f=0
 tp:∀f,r f->page f=pg f
 on:∀f,r f->e f=ev f
 off:∀f,¬r f->e f=false
section
variable{n k id:Nat}{r r':Nat->Prop}{page pg pg':Nat->Nat}{e ev ev':Nat->Bool}
theorem RowsOk.same(h:RowsOk n r page e pg ev)(e1:∀i,i<n->pg i=pg' i)(e2:∀i,i<n->¬pg i=0->ev i=ev' i):RowsOk n r page e pg' ev':=by
 refine⟨fun f=>(h.mem f).trans ?_,fun f q=>(h.tp f q).trans (e1 f ((h.mem f).1 q).1),fun f q=>(h.on f q).trans (e2 f ((h.mem f).1 q).1 ((h.mem f).1 q).2),h.off⟩;constructor
 .exact fun q=>⟨q.1,by rw[<-e1 f q.1];exact q.2⟩
 .exact fun q=>⟨q.1,by rw[e1 f q.1];exact q.2⟩
theorem RowsOk.perm(h:RowsOk n r page e pg ev)(hr:∀x,r' x↔r x):RowsOk n r' page e pg ev:=
 ⟨fun f=>(hr f).trans (h.mem f),fun f q=>h.tp f ((hr f).1 q),fun f q=>h.on f ((hr f).1 q),fun f q=>h.off f (fun p=>q ((hr f).2 p))⟩
theorem RowsOk.come(h:RowsOk n r page e pg ev)(hk:k<n)(h0:pg k=0)(h1:1<=id)(hr:∀x,r' x↔r x∨x=k):RowsOk n r' (upd page k id) e (upd pg k id) (upd ev k false):=by
 have hn:¬r k:=fun q=>((h.mem k).1 q).2 h0
 refine⟨fun f=>?_,fun f q=>?_,fun f q=>?_,fun f q=>h.off f (fun p=>q ((hr f).2 (.inl p)))⟩
 .rw[hr]
  by_cases c:f=k
  .subst c;rw[upd_same];exact⟨fun _=>⟨hk,by omega⟩,fun _=>.inr rfl⟩
  .rw[upd_other _ _ c,<-h.mem];exact⟨fun q=>q.resolve_right c,.inl⟩
 .by_cases c:f=k
  .subst c;rw[upd_same,upd_same]
  .rw[upd_other _ _ c,upd_other _ _ c];exact h.tp f (((hr f).1 q).resolve_right c)
 .by_cases c:f=k
  .subst c;rw[upd_same];exact h.off f hn
  .rw[upd_other _ _ c];exact h.on f (((hr f).1 q).resolve_right c)
theorem RowsOk.go(h:RowsOk n r page e pg ev)(hr:∀x,r' x↔r x∧¬x=k):RowsOk n r' page (upd e k false) (upd pg k 0) (upd ev k false):=by
 refine⟨fun f=>?_,fun f q=>?_,fun f q=>?_,fun f q=>?_⟩
 .rw[hr]
  by_cases c:f=k
  .subst c;rw[upd_same];exact⟨fun q=>(q.2 rfl).elim,fun q=>(q.2 rfl).elim⟩
  .rw[upd_other _ _ c,<-h.mem];exact⟨fun q=>q.1,fun q=>⟨q,c⟩⟩
 .obtain⟨q1,q2⟩:=(hr f).1 q
  rw[upd_other _ _ q2];exact h.tp f q1
 .obtain⟨q1,q2⟩:=(hr f).1 q
  rw[upd_other _ _ q2,upd_other _ _ q2];exact h.on f q1
 .by_cases c:f=k
  .subst c;rw[upd_same]
  .rw[upd_other _ _ c];exact h.off f (fun p=>q ((hr f).2 ⟨p,c⟩))
theorem RowsOk.set(h:RowsOk n r page e pg ev)(hk:r k)(b:Bool):RowsOk n r page (upd e k b) pg (upd ev k b):=by
 refine⟨h.mem,h.tp,fun f q=>?_,fun f q=>?_⟩
 .by_cases c:f=k
  .subst c;rw[upd_same,upd_same]
  .rw[upd_other _ _ c,upd_other _ _ c];exact h.on f q
 .have c:¬f=k:=fun c=>q (c▸hk)
  rw[upd_other _ _ c];exact h.off f q
theorem RowsOk.goer(h:RowsOk n r page e pg ev){x:Nat}(hx:r x)(he:e x=true):Goer n pg ev x:=⟨((h.mem x).1 hx).1,((h.mem x).1 hx).2,by rw[<-h.on x hx];exact he⟩
theorem RowsOk.at(h:RowsOk n r page e pg ev){x:Nat}(hx:Goer n pg ev x):r x∧e x=true:=by
 have q:=(h.mem x).2 ⟨hx.1,hx.2.1⟩;exact⟨q,by rw[h.on x q];exact hx.2.2⟩
end
theorem find_or{a b:List Nat}{p:Nat->Bool}{x:Nat}(h:(a.find? p).or (b.find? p)=some x):(x∈a∨x∈b)∧p x=true:=by
 cases e:a.find? p with
 |some y=>
  rw[e]at h;have h:y=x:=by simpa using h
  subst h;exact⟨.inl (List.mem_of_find?_eq_some e),List.find?_some e⟩
 |none=>
  rw[e]at h;have h:b.find? p=some x:=by simpa using h
  exact⟨.inr (List.mem_of_find?_eq_some h),List.find?_some h⟩
theorem find_or_none{a b:List Nat}{p:Nat->Bool}{x:Nat}(h:(a.find? p).or (b.find? p)=none)(hx:x∈a∨x∈b):p x=false:=by
 have h1:a.find? p=none∧b.find? p=none:=by
  cases e:a.find? p with
  |some y=>rw[e]at h;cases h
  |none=>rw[e]at h;exact⟨rfl,by simpa using h⟩
 rcases hx with q|q
 .have:=List.find?_eq_none.1 h1.1 x q;simpa using this
 .have:=List.find?_eq_none.1 h1.2 x q;simpa using this
def ok4(n:Nat)(m:Nat)(t:LT)(pg:Nat->Nat)(ev:Nat->Bool):Prop:=∃page,RowsOk n (fun f=>f∈t.1) page t.2 pg ev
theorem okS4(n:Nat):OkSys lruPol (lruPre n) n (ok4 n) where
 more:=fun h _=>h
 same:=fun⟨p,h⟩ e1 e2=>⟨p,h.same e1 e2⟩
 pMiss:=fun _ _ _ _ _ q=>(by rcases q with q|q|q<;>cases q)
 pAcc:=fun _ _ _ _ hk _ _=>hk
 pSet:=fun _ _ _ hk _ _=>hk
 pVic:=fun _ _ _ _ _ q=>(by rcases q with q|q|q<;>cases q)
 pRem:=fun _ _ hk _ _=>hk
 okMiss:=fun h _ _ _=>h
 okNew:=fun⟨p,h⟩ _ h1 _ hk h0 _=>⟨_,h.come hk h0 h1 (fun x=>mem_back)⟩
 okOld:=fun{m s pg ev id k} ⟨p,h⟩ _ h1 hk h0=>⟨p,h.perm (fun x=>by
  show x∈backL s.1 k↔_
  rw[mem_back];exact⟨fun q=>q.elim _root_.id (fun q=>q▸(h.mem k).2 ⟨hk,by omega⟩),.inl⟩)⟩
 okSet:=fun{m s pg ev k} b ⟨p,h⟩ _ hk hx=>by
  have hm:k∈s.1:=(h.mem k).2 ⟨hk,hx⟩;refine⟨p,?_⟩
  show RowsOk n (fun f=>f∈s.1) p (setL s.1 s.2 k b) pg _
  unfold setL;rw[if_pos hm];exact h.set hm b
 okRem:=fun{m s pg ev k} ⟨p,h⟩ _ hk hx=>by
  have hm:k∈s.1:=(h.mem k).2 ⟨hk,hx⟩;refine⟨p,?_⟩
  show RowsOk n (fun f=>f∈awayL s.1 k) p (setL s.1 s.2 k false) _ _
  unfold setL;rw[if_pos hm];exact h.go (fun x=>mem_away)
 goer:=fun{m s pg ev id x} ⟨p,h⟩ hv=>by
  have hv:s.1.find? s.2=some x:=hv;exact h.goer (List.mem_of_find?_eq_some hv) (List.find?_some hv)
 some:=fun{m s pg ev id} ⟨p,h⟩ ⟨x,hx⟩ hv=>by
  have hv:s.1.find? s.2=none:=hv;obtain⟨q1,q2⟩:=h.at hx;have:=List.find?_eq_none.1 hv x q1;exact this q2
 okGone:=fun{m s pg ev id x} ⟨p,h⟩ _ h1 hn hv=>by
  have hv:firstL s.1 s.2=some x:=hv;have hm:x∈s.1:=List.mem_of_find?_eq_some hv;have hg:lruPol.gone s id=lruRem s x:=by show(match firstL s.1 s.2 with|none=>s|some f=>lruRem s f)=_;rw[hv]
  rw[hg];refine⟨p,?_⟩
  show RowsOk n (fun f=>f∈awayL s.1 x) p (setL s.1 s.2 x false) _ _
  unfold setL;rw[if_pos hm];exact h.go (fun y=>mem_away)
theorem rep4(pb b n:Nat):RepSys (advOf lruPol) (lruCR b n) pb (repV4 b) n (ok4 n):=repOf (lru_cod b n) (clo4 b) (okS4 n)
def ok6(n:Nat)(m:Nat)(t:T6)(pg:Nat->Nat)(ev:Nat->Bool):Prop:=RowsOk n (fun f=>f∈t.nw∨f∈t.mn) t.page t.ev pg ev
theorem away_or{a b:List Nat}{k x:Nat}:(x∈awayN a k∨x∈awayN b k)↔(x∈a∨x∈b)∧¬x=k:=by
 simp only[awayN,List.mem_filter];by_cases c:x=k<;>simp[c]
theorem goes6{t:T6}{inn x:Nat}(h:t.goes inn=some x):(x∈t.nw∨x∈t.mn)∧t.ev x=true:=by
 unfold T6.goes at h
 split at h
 .exact find_or h
 .exact(find_or h).imp Or.symm id
theorem goes6_no{t:T6}{inn x:Nat}(h:t.goes inn=none)(hx:x∈t.nw∨x∈t.mn):t.ev x=false:=by
 unfold T6.goes at h
 split at h
 .exact find_or_none h hx
 .exact find_or_none h hx.symm
theorem okS6(n inn out:Nat):OkSys (polT inn out) (preT n) n (ok6 n) where
 more:=fun h _=>h
 same:=fun h e1 e2=>RowsOk.same h e1 e2
 pMiss:=fun _ _ _ _ _=>⟨fun q=>(by rcases q with q|q|q<;>cases q),fun q=>(by cases q)⟩
 pAcc:=fun{m s pg ev id k} h _ h1 h2 hk hx=>⟨fun _=>hk,fun _=>⟨h2,by
  rcases hx with q|⟨q,q2⟩
  .exact .inl ((h.mem k).2 ⟨hk,by omega⟩)
  .exact .inr (fun g hg e=>q2 g ((h.mem g).1 hg).1 (by rw[<-h.tp g hg];exact e))⟩⟩
 pSet:=fun _ _ _ hk _=>⟨fun _=>hk,fun q=>(by cases q)⟩
 pVic:=fun _ _ _ _ _=>⟨fun q=>(by rcases q with q|q|q<;>cases q),fun q=>(by cases q)⟩
 pRem:=fun _ _ hk _=>⟨fun _=>hk,fun q=>(by cases q)⟩
 okMiss:=fun h _ _ _=>h
 okNew:=fun{m s pg ev id k} h _ h1 _ hk h0 _=>by
  have hn:¬(k∈s.nw∨k∈s.mn):=fun q=>((h.mem k).1 q).2 h0
  show ok6 n _ (s.acc k id) _ _
  unfold T6.acc;rw[if_neg (fun q=>hn (.inl q)),if_neg (fun q=>hn (.inr q))];unfold T6.come
  split
  .exact RowsOk.come h hk h0 h1 (fun x=>by simp only[List.mem_append,List.mem_singleton,or_assoc])
  .exact RowsOk.come h hk h0 h1 (fun x=>by simp only[List.mem_append,List.mem_singleton];exact or_right_comm)
 okOld:=fun{m s pg ev id k} h _ h1 hk h0=>by
  have hn:k∈s.nw∨k∈s.mn:=(h.mem k).2 ⟨hk,by omega⟩
  show ok6 n _ (s.acc k id) _ _
  unfold T6.acc
  split
  .exact h
  .rename_i q
   have hm:=hn.resolve_left q;rw[if_pos hm];refine RowsOk.perm h (fun x=>?_);simp only[List.mem_append,List.mem_singleton,awayN,List.mem_filter];by_cases c:x=k
   .subst c;simp[hm]
   .simp[c]
 okSet:=fun{m s pg ev k} b h _ hk hx=>by
  have hn:k∈s.nw∨k∈s.mn:=(h.mem k).2 ⟨hk,hx⟩
  show ok6 n _ (s.setE k b) _ _
  unfold T6.setE;rw[if_pos hn];exact RowsOk.set h hn b
 okRem:=fun{m s pg ev k} h _ hk hx=>by
  have hn:k∈s.nw∨k∈s.mn:=(h.mem k).2 ⟨hk,hx⟩
  show ok6 n _ (s.rem k) _ _
  unfold T6.rem;rw[if_pos hn];exact RowsOk.go h (fun x=>away_or)
 goer:=fun{m s pg ev id x} h hv=>by
  obtain⟨q1,q2⟩:=goes6 (show s.goes inn=some x from hv);exact RowsOk.goer h q1 q2
 some:=fun{m s pg ev id} h ⟨x,hx⟩ hv=>by
  obtain⟨q1,q2⟩:=RowsOk.at h hx;have:=goes6_no (show s.goes inn=none from hv) q1;rw[this]at q2;cases q2
 okGone:=fun{m s pg ev id x} h _ h1 hn hv=>by
  have hv:s.goes inn=some x:=hv;obtain⟨q1,_⟩:=goes6 hv;have hg:(polT inn out).gone s id=s.gone out x:=by show(match s.goes inn with|none=>s|some f=>s.gone out f)=_;rw[hv]
  rw[hg];unfold T6.gone T6.rem
  repeat' split
  all_goals first|exact RowsOk.go h (fun x=>away_or)|exact absurd q1 (by assumption)
theorem rep6(pb b n inn out:Nat):RepSys (advOf (polT inn out)) (CRT b n inn out) pb (repV6 b) n (ok6 n):=repOf (cod6 b n inn out) (clo6 b) (okS6 n inn out)
def ok7(n:Nat)(m:Nat)(t:T7)(pg:Nat->Nat)(ev:Nat->Bool):Prop:=RowsOk n (fun f=>f∈t.nw∨f∈t.mn) t.page t.ev pg ev
theorem goes7{t:T7}{id x:Nat}(h:t.goes id=some x):(x∈t.nw∨x∈t.mn)∧t.ev x=true:=by
 unfold T7.goes T7.goesC at h
 split at h
 .exact find_or h
 .exact(find_or h).imp Or.symm _root_.id
theorem goes7_no{t:T7}{id x:Nat}(h:t.goes id=none)(hx:x∈t.nw∨x∈t.mn):t.ev x=false:=by
 unfold T7.goes T7.goesC at h
 split at h
 .exact find_or_none h hx
 .exact find_or_none h hx.symm
theorem okS7(n:Nat):OkSys (polA n) (preA n) n (ok7 n) where
 more:=fun h _=>h
 same:=fun h e1 e2=>RowsOk.same h e1 e2
 pMiss:=fun _ _ _ h2 _=>⟨fun q=>(by rcases q with q|q|q<;>cases q),fun q=>(by cases q),fun _=>h2⟩
 pAcc:=fun{m s pg ev id k} h _ h1 h2 hk hx=>⟨fun _=>hk,fun _=>⟨h2,by
  rcases hx with q|⟨q,q2⟩
  .exact .inl ((h.mem k).2 ⟨hk,by omega⟩)
  .exact .inr (fun g hg e=>q2 g ((h.mem g).1 hg).1 (by rw[<-h.tp g hg];exact e))⟩,fun q=>(by rcases q with q|q<;>cases q)⟩
 pSet:=fun _ _ _ hk _=>⟨fun _=>hk,fun q=>(by cases q),fun q=>(by rcases q with q|q<;>cases q)⟩
 pVic:=fun _ _ _ h2 _=>⟨fun q=>(by rcases q with q|q|q<;>cases q),fun q=>(by cases q),fun _=>h2⟩
 pRem:=fun _ _ hk _=>⟨fun _=>hk,fun q=>(by cases q),fun q=>(by rcases q with q|q<;>cases q)⟩
 okMiss:=fun{m s pg ev id} h _ _ _=>by
  show ok7 n _ (s.miss n id) _ _
  unfold T7.miss
  repeat' split
  all_goals exact h
 okNew:=fun{m s pg ev id k} h _ h1 _ hk h0 _=>by
  have hn:¬(k∈s.nw∨k∈s.mn):=fun q=>((h.mem k).1 q).2 h0
  show ok7 n _ (s.acc k id) _ _
  unfold T7.acc;rw[if_neg hn]
  split
  .exact RowsOk.come h hk h0 h1 (fun x=>by simp only[List.mem_append,List.mem_singleton,or_assoc])
  .exact RowsOk.come h hk h0 h1 (fun x=>by simp only[List.mem_append,List.mem_singleton];exact or_right_comm)
 okOld:=fun{m s pg ev id k} h _ h1 hk h0=>by
  have hn:k∈s.nw∨k∈s.mn:=(h.mem k).2 ⟨hk,by omega⟩
  show ok7 n _ (s.acc k id) _ _
  unfold T7.acc;rw[if_pos hn];refine RowsOk.perm h (fun x=>?_);simp only[List.mem_append,List.mem_singleton,awayN,List.mem_filter];by_cases c:x=k
  .subst c;simp[hn]
  .simp[c]
 okSet:=fun{m s pg ev k} b h _ hk hx=>by
  have hn:k∈s.nw∨k∈s.mn:=(h.mem k).2 ⟨hk,hx⟩
  show ok7 n _ (s.setE k b) _ _
  unfold T7.setE;rw[if_pos hn];exact RowsOk.set h hn b
 okRem:=fun{m s pg ev k} h _ hk hx=>by
  have hn:k∈s.nw∨k∈s.mn:=(h.mem k).2 ⟨hk,hx⟩
  show ok7 n _ (s.rem k) _ _
  unfold T7.rem;rw[if_pos hn];exact RowsOk.go h (fun x=>away_or)
 goer:=fun{m s pg ev id x} h hv=>by
  obtain⟨q1,q2⟩:=goes7 (show s.goes id=some x from hv);exact RowsOk.goer h q1 q2
 some:=fun{m s pg ev id} h ⟨x,hx⟩ hv=>by
  obtain⟨q1,q2⟩:=RowsOk.at h hx;have:=goes7_no (show s.goes id=none from hv) q1;rw[this]at q2;cases q2
 okGone:=fun{m s pg ev id x} h _ h1 hn hv=>by
  have hv:s.goes id=some x:=hv;obtain⟨q1,_⟩:=goes7 hv;have hg:(polA n).gone s id=s.gone n id x:=by show(match s.goes id with|none=>s|some f=>s.gone n id f)=_;rw[hv]
  rw[hg];unfold T7.gone T7.rem T7.keep
  repeat' split
  all_goals first|exact RowsOk.go h (fun x=>away_or)|exact absurd q1 (by assumption)
theorem rep7(pb b n:Nat):RepSys (advOf (polA n)) (CRA b n) pb (repV7 b) n (ok7 n):=repOf (cod7 b n) (clo7 b) (okS7 n)
end
end Go.Proofs.YtoenclhimbpfeaaGreatDoor
