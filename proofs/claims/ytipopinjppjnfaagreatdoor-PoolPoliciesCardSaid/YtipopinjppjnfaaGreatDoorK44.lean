/- Part 44. -/
import Derived.Test.YtipopinjppjnfaaGreatDoorK43
namespace Go.Proofs.YtipopinjppjnfaaGreatDoor
set_option linter.all false
set_option maxHeartbeats 16000000
set_option maxRecDepth 100000
section
open Go.Maps Go.Proofs.Tryz Go.RowKit
def Good0{τ:Type}(P:Adv τ)(n:Nat)(ok:Nat->τ->(Nat->Nat)->(Nat->Bool)->Prop):Prop:=
 ∀(m:Nat) (s:τ) (pg:Nat->Nat) (ev:Nat->Bool) (id:Nat),ok m s pg ev->(∃x,Goer n pg ev x)->∃a,P.victim s id=some a∧Goer n pg ev a
section
variable{τ:Type}{P:Adv τ}{RR:World->τ->(Nat->Prop)->Prop}{ok:Nat->τ->(Nat->Nat)->(Nat->Bool)->Prop}{p:PP}(S:RepSys P RR p.pb p.rv p.n ok){m:Nat}{X:PS τ}{id:Nat}
include S
theorem room_sc(G:Good0 P p.n ok)(hm:m<90000)(ho:ok m X.A (pgO X.f) (evO X.f))(h1:1<=id)(hno:∀i,i<p.n->¬(X.f i).id=id)(hall:¬X.all p.n=true):(X.room P p.n id).2.sc=X.sc:=by
 unfold PS.room
 cases he:fstB p.n (emB p.n X.f)with
 |some x=>rfl
 |none=>
  have hid:∃x0,fstB p.n (idB p.n X.f)=some x0:=by
   cases e:fstB p.n (idB p.n X.f)with
   |some x0=>exact⟨x0,rfl⟩
   |none=>exact(hall (by unfold PS.all;rw[he,e];rfl)).elim
  obtain⟨x0,hx0⟩:=hid
  have hs0:(X.vic P p.n id).2.2=0:=by
   have okM:=S.okMiss ho hm h1 hno;obtain⟨a,ha,hg⟩:=G _ _ _ _ id okM ⟨x0,(goer_iff _ _ _).1 (fstB_some hx0).2.1⟩;unfold PS.vic;rw[vicX_yes ha ((goer_iff _ _ _).2 hg)]
  dsimp only
  rw[hs0]
  repeat' split
  all_goals rfl
theorem newPage_sc(G:Good0 P p.n ok)(hI:Inv p.n X.f X.D)(hm:m<90000)(ho:ok m X.A (pgO X.f) (evO X.f)):(X.newPage P p.n).2.sc=X.sc:=by
 unfold PS.newPage;by_cases c1:X.all p.n=true
 .rw[if_pos c1]
 .rw[if_neg c1]
  by_cases c2:X.D.room<=X.D.L.length
  .rw[if_pos c2]
  .rw[if_neg c2]
   have hgap:=hI.gap
   have hno:∀i,i<p.n->¬(X.f i).id=gapOf X.D.L+1:=fun i hi e=>by
    have:=hI.has i hi (by rw[e];omega);rw[e,hgap]at this;cases this
   have h:=room_sc S G (X:=({X with D:=X.D.ins (gapOf X.D.L)}:PS τ)) hm ho (id:=gapOf X.D.L+1) (by omega) hno c1
   cases(PS.room P p.n {X with D:=X.D.ins (gapOf X.D.L)} (gapOf X.D.L+1)).1.1 with
   |none=>exact h
   |some k=>exact h
theorem fetch_sc(G:Good0 P p.n ok)(hI:Inv p.n X.f X.D)(hm:m<90000)(ho:ok m X.A (pgO X.f) (evO X.f))(id:Nat):(X.fetch P p.n id).2.sc=X.sc:=by
 unfold PS.fetch;by_cases hh:X.D.has id=true
 .rw[if_pos hh]
  cases hf:frm p.n X.f id with
  |some k=>rfl
  |none=>
   dsimp only
   by_cases c:X.all p.n=true
   .rw[if_pos c]
   .rw[if_neg c]
    have h:=room_sc S G hm ho (id:=id) (hI.pos hh) (frm_none hf) c
    cases(X.room P p.n id).1.1 with
    |none=>exact h
    |some k=>
     dsimp only
     split<;>exact h
 .rw[if_neg hh]
end
theorem clean_sc{τ:Type}(X:PS τ)(k:Nat):(X.clean k).2.sc=X.sc:=by
 unfold PS.clean
 split
 .split<;>rfl
 .rfl
theorem flushL_sc{τ:Type}(X:PS τ)(l:List Nat):(X.flushL l).2.sc=X.sc:=by
 have key:∀(l:List Nat) (a:Nat×PS τ),(l.foldl flF a).2.sc=a.2.sc:=fun l=>by
  induction l with
  |nil=>exact fun _=>rfl
  |cons k l ih=>intro a;rw[List.foldl_cons,ih];exact clean_sc _ _
 exact key l _
def AM.okA(M:AM):Prop:=∀x,¬x∈M.ids->M.pin x=0
section
variable{M:AM}{n id v:Nat}
theorem AM.okA_np(h:M.okA):(M.newPage n).2.okA:=by
 unfold AM.newPage
 repeat' split
 .exact h
 .exact h
 .intro x hx
  have hx:¬x∈M.ids.take M.gap++[M.gap+1]++M.ids.drop M.gap:=hx;have e:M.ids=M.ids.take M.gap++M.ids.drop M.gap:=(List.take_append_drop M.gap M.ids).symm;simp only[List.mem_append,List.mem_singleton,not_or]at hx
  show upd M.pin (M.gap+1) 1 x=0
  rw[upd_other _ _ hx.1.2];refine h x (fun q=>?_);rw[e,List.mem_append]at q;exact q.elim hx.1.1 hx.2
theorem AM.okA_pin(h:M.okA)(hm:id∈M.ids)(q:Nat):({M with pin:=upd M.pin id q}:AM).okA:=fun x hx=>by
 show upd M.pin id q x=0
 rw[upd_other _ _ (fun e=>hx (by rw[e];exact hm))];exact h x hx
theorem AM.okA_fe(h:M.okA):(M.fetch n id).2.okA:=by
 unfold AM.fetch
 split
 .rename_i hm
  split
  .exact h
  .exact AM.okA_pin h hm _
 .exact h
theorem AM.held_mem(h:M.held id=0):id∈M.ids:=by
 unfold AM.held at h;by_cases c:id∈M.ids
 .exact c
 .rw[if_neg c]at h;cases h
theorem AM.okA_un(h:M.okA):(M.unpin id).2.okA:=by
 unfold AM.unpin
 split
 .rename_i hm;exact AM.okA_pin h (AM.held_mem hm) _
 .exact h
theorem AM.okA_wr(h:M.okA):(M.write id v).2.okA:=by
 unfold AM.write
 split
 .exact h
 .exact h
theorem outI_mem{l:List Nat}{x y:Nat}(h:x∈l):x∈outI l y∨x=y:=by
 unfold outI
 cases e:l.findIdx? (fun z=>z==y)with
 |none=>exact .inl h
 |some k=>
  obtain⟨hk,h1,_⟩:=List.findIdx?_eq_some_iff_getElem.1 e;have h1:l[k]=y:=by simpa using h1
  have e2:l=l.take k++l[k]::l.drop (k+1):=by rw[<-List.drop_eq_getElem_cons hk,List.take_append_drop]
  rw[e2,List.mem_append,List.mem_cons]at h;rcases h with h|h|h
  .exact .inl (List.mem_append.2 (.inl h))
  .exact .inr (h.trans h1)
  .exact .inl (List.mem_append.2 (.inr h))
theorem AM.okA_de(h:M.okA):(M.delete id).2.okA:=by
 unfold AM.delete
 split
 .split
  .rename_i h0
   intro x hx;have hx:¬x∈outI M.ids id:=hx
   show M.pin x=0
   by_cases c:x∈M.ids
   .rw[(outI_mem c).resolve_left hx];exact h0
   .exact h x c
  .exact h
 .exact h
end
def AnyP(p:PP)(q:Bool)(M:AM)(m:Nat)(w:World)(F:Nat->Prop):Prop:=
 ∃(τ:Type) (P:Adv τ) (RR:World->τ->(Nat->Prop)->Prop) (ok:Nat->τ->(Nat->Nat)->(Nat->Bool)->Prop) (X:PS τ),RepSys P RR p.pb p.rv p.n ok∧PW RR ok p X m w F∧Abs p.n X M∧M.okA∧(q=true->X.sc=0∧Good0 P p.n ok)
def AnyK(p:PP)(q:Bool)(r c:Nat)(g:Nat->Int)(M:AM)(m:Nat)(w:World)(F:Nat->Prop):Prop:=
 ∃(τ:Type) (P:Adv τ) (RR:World->τ->(Nat->Prop)->Prop) (ok:Nat->τ->(Nat->Nat)->(Nat->Bool)->Prop) (X:PS τ),RepSys P RR p.pb p.rv p.n ok∧PW RR ok p X m w F∧Abs p.n X M∧M.okA∧(q=true->X.sc=0∧Good0 P p.n ok)∧X.D.rd=r∧cnt p.n X<=c∧∀id,X.frame p.n id=g id
theorem AnyK.any{p:PP}{q:Bool}{r c m:Nat}{g:Nat->Int}{M:AM}{w:World}{F:Nat->Prop}(h:AnyK p q r c g M m w F):AnyP p q M m w F:=by
 obtain⟨τ,P,RR,ok,X,S,H,A,O,K,_⟩:=h;exact⟨τ,P,RR,ok,X,S,H,A,O,K⟩
theorem AnyK.fr0{p:PP}{q:Bool}{r c m:Nat}{g:Nat->Int}{M:AM}{w w':World}{F:Nat->Prop}(h:AnyK p q r c g M m w F)(f:Fr NoF w w'):AnyK p q r c g M m w' F:=by
 obtain⟨τ,P,RR,ok,X,S,H,A⟩:=h;exact⟨τ,P,RR,ok,X,S,H.fr0 S f,A⟩
section
variable{p:PP}{q:Bool}{M:AM}{m id v:Nat}{w w':World}{F:Nat->Prop}
theorem AnyP.fr0(h:AnyP p q M m w F)(f:Fr NoF w w'):AnyP p q M m w' F:=by
 obtain⟨τ,P,RR,ok,X,S,H,A,O,G⟩:=h;exact⟨τ,P,RR,ok,X,S,H.fr0 S f,A,O,G⟩
theorem AnyP.more(h:AnyP p q M m w F){k:Nat}(hk:m<=k):AnyP p q M k w F:=by
 obtain⟨τ,P,RR,ok,X,S,H,A,O,G⟩:=h;exact⟨τ,P,RR,ok,X,S,H.more S hk,A,O,G⟩
theorem AnyP.np(h:AnyP p q M m w F)(hm:m<60000):Calls prog 22 #[p.ptr] w fun e w'=>e=.returned (.tuple #[.int .u32 (M.newPage p.n).1.1,.int .i64 (M.newPage p.n).1.2])∧Led (AnyP p q (M.newPage p.n).2 (m+10)) F w w':=by
 obtain⟨τ,P,RR,ok,X,S,H,A,O,G⟩:=h;obtain⟨e1,A2⟩:=A.newPageE (P:=P);refine(np_calls S H hm).mono fun e w' ⟨he,hl⟩=>⟨by rw[he,e1],hl.mono (fun F' h'=>⟨τ,P,RR,ok,_,S,h',A2,AM.okA_np O,fun hq=>⟨?_,(G hq).2⟩⟩)⟩
 rw[newPage_sc S (G hq).2 H.2.1 (by omega) H.2.2];exact(G hq).1
theorem AnyP.fe(h:AnyP p q M m w F)(hm:m<60000)(hu:id<4294967296):Calls prog 24 #[p.ptr,.int .u32 id] w fun e w'=>e=.returned (.int .i64 (M.fetch p.n id).1)∧Led (AnyP p q (M.fetch p.n id).2 (m+10)) F w w':=by
 obtain⟨τ,P,RR,ok,X,S,H,A,O,G⟩:=h;obtain⟨e1,A2⟩:=A.fetchE (P:=P) id;refine(fe_calls S H hm hu).mono fun e w' ⟨he,hl⟩=>⟨by rw[he,e1],hl.mono (fun F' h'=>⟨τ,P,RR,ok,_,S,h',A2,AM.okA_fe O,fun hq=>⟨?_,(G hq).2⟩⟩)⟩
 rw[fetch_sc S (G hq).2 H.2.1 (by omega) H.2.2];exact(G hq).1
theorem AnyP.un(h:AnyP p q M m w F)(hm:m<60000)(hu:id<4294967296):Calls prog 23 #[p.ptr,.int .u32 id] w fun e w'=>e=.returned (.int .i64 (M.unpin id).1)∧Led (AnyP p q (M.unpin id).2 (m+10)) F w w':=by
 obtain⟨τ,P,RR,ok,X,S,H,A,O,G⟩:=h;obtain⟨e1,A2⟩:=A.unpinE (P:=P) id;refine(un_calls S H hm hu).mono fun e w' ⟨he,hl⟩=>⟨by rw[he,e1],hl.mono (fun F' h'=>⟨τ,P,RR,ok,_,S,h',A2,AM.okA_un O,fun hq=>⟨?_,(G hq).2⟩⟩)⟩
 unfold PS.unpin
 split
 .exact(G hq).1
 .exact(G hq).1
theorem AnyP.rd(h:AnyP p q M m w F)(hu:id<4294967296):Calls prog 25 #[p.ptr,.int .u32 id] w fun e w'=>e=.returned (.tuple #[.int .u64 (M.read id).1,.int .i64 (M.read id).2])∧w=w':=by
 obtain⟨τ,P,RR,ok,X,S,H,A,O,G⟩:=h;exact(rd_calls H hu).mono fun e w' ⟨he,hw⟩=>⟨by rw[he,A.readE],hw⟩
theorem AnyP.wr(h:AnyP p q M m w F)(hu:id<4294967296)(hv:v<18446744073709551616):Calls prog 26 #[p.ptr,.int .u32 id,.int .u64 v] w fun e w'=>e=.returned (.int .i64 (M.write id v).1)∧Led (AnyP p q (M.write id v).2 (m+10)) F w w':=by
 obtain⟨τ,P,RR,ok,X,S,H,A,O,G⟩:=h;obtain⟨e1,A2⟩:=A.writeE id hv;refine(wr_calls S H hu hv).mono fun e w' ⟨he,hl⟩=>⟨by rw[he,e1],hl.mono (fun F' h'=>⟨τ,P,RR,ok,_,S,h',A2,AM.okA_wr O,fun hq=>⟨?_,(G hq).2⟩⟩)⟩
 unfold PS.write
 split
 .exact(G hq).1
 .exact(G hq).1
theorem AnyP.fl(h:AnyP p q M m w F)(hm:m<60000)(hu:id<4294967296):Calls prog 27 #[p.ptr,.int .u32 id] w fun e w'=>e=.returned (.int .i64 (M.flush id))∧Led (AnyP p q M (m+10)) F w w':=by
 obtain⟨τ,P,RR,ok,X,S,H,A,O,G⟩:=h;obtain⟨e1,A2⟩:=A.flushE id;refine(fl_calls S H hm hu).mono fun e w' ⟨he,hl⟩=>⟨by rw[he,e1],hl.mono (fun F' h'=>⟨τ,P,RR,ok,_,S,h',A2,O,fun hq=>⟨?_,(G hq).2⟩⟩)⟩
 unfold PS.flush
 split
 .cases frm p.n X.f id with
  |none=>exact(G hq).1
  |some k=>show(X.clean k).2.sc=0;rw[clean_sc];exact(G hq).1
 .exact(G hq).1
theorem AnyP.de(h:AnyP p q M m w F)(hm:m<60000)(hu:id<4294967296):Calls prog 28 #[p.ptr,.int .u32 id] w fun e w'=>e=.returned (.int .i64 (M.delete id).1)∧Led (AnyP p q (M.delete id).2 (m+10)) F w w':=by
 obtain⟨τ,P,RR,ok,X,S,H,A,O,G⟩:=h;obtain⟨e1,A2⟩:=A.deleteE (P:=P) id;refine(de_calls S H hm hu).mono fun e w' ⟨he,hl⟩=>⟨by rw[he,e1],hl.mono (fun F' h'=>⟨τ,P,RR,ok,_,S,h',A2,AM.okA_de O,fun hq=>⟨?_,(G hq).2⟩⟩)⟩
 unfold PS.delete
 split
 .cases frm p.n X.f id with
  |none=>exact(G hq).1
  |some k=>dsimp only;split<;>exact(G hq).1
 .exact(G hq).1
theorem AnyP.hs(h:AnyP p q M m w F)(hu:id<4294967296):Calls prog 10 #[p.ptr,.int .u32 id] w fun e w'=>e=.returned (.bool (decide (id∈M.ids)))∧w=w':=by
 obtain⟨τ,P,RR,ok,X,S,H,A,O,G⟩:=h;exact(hs_calls H hu).mono fun e w' ⟨he,hw⟩=>⟨by rw[he,A.has],hw⟩
theorem AnyP.pi(h:AnyP p q M m w F)(hu:id<4294967296):Calls prog 9 #[p.ptr,.int .u32 id] w fun e w'=>e=.returned (.int .i64 (M.pin id:Nat))∧w=w':=by
 obtain⟨τ,P,RR,ok,X,S,H,A,O,G⟩:=h;refine(pi_calls H hu).mono fun e w' ⟨he,hw⟩=>⟨?_,hw⟩
 rw[he];by_cases c:1<=id
 .rw[A.pinsE c O]
 .have h0:¬id∈M.ids:=fun q=>c (A.pos q)
  have:X.pins p.n id=0:=by
   unfold PS.pins;rw[(A.heldE id).1];unfold AM.held;rw[if_neg h0];rfl
  rw[this,O id h0]
theorem AnyP.sc(h:AnyP p true M m w F):Calls prog 8 #[p.ptr] w fun e w'=>e=.returned (.int .i64 0)∧w=w':=by
 obtain⟨τ,P,RR,ok,X,S,H,A,O,G⟩:=h;exact(sc_calls H).mono fun e w' ⟨he,hw⟩=>⟨by rw[he,(G rfl).1];rfl,hw⟩
end
end
end Go.Proofs.YtipopinjppjnfaaGreatDoor
