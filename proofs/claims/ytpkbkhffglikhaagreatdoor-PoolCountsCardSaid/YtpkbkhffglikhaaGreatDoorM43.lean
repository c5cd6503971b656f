/- Part 43. -/
import Derived.Test.YtpkbkhffglikhaaGreatDoorM42
import Derived.Test.YtpkbkhffglikhaaGreatDoorTie
import Derived.Lib.LaidTab
import Derived.Deep.Strs
namespace Go.Proofs.YtpkbkhffglikhaaGreatDoor
set_option linter.all false
set_option maxHeartbeats 16000000
set_option maxRecDepth 100000
section
open Go.Maps Go.Proofs.Tryz Go.RowKit
def withB(R:World->(Nat->Prop)->Prop)(b:Nat)(C:Nat->Value)(w:World)(F:Nat->Prop):Prop:=∃G,R w G/\Blk w b 3 C/\¬G b/\∀i,F i↔G i\/i=b
section
variable{R R' R1 R2:World->(Nat->Prop)->Prop}{b:Nat}{C:Nat->Value}{w0 w w':World}
theorem withB.frm(k:Frm R):Frm (withB R b C) where
 lt:=λ⟨G,h1,h2,h3,h4⟩ i q=>((h4 i).1 q).elim (k.lt h1 i) (λe=>e▸h2.lt)
 fro:=λ⟨G,h1,h2,h3,h4⟩ f hG ht=>⟨G,k.fro h1 f (λi q=>hG i ((h4 i).2 (.inl q))) ht,h2.fr f (hG b ((h4 b).2 (.inr rfl))),h3,h4⟩
theorem withB.does{g:FuncId}{args:Array Value}{v:Value}(h:Does R R' g args v):Does (withB R b C) (withB R' b C) g args v:=λW F ⟨G,h1,h2,h3,h4⟩=>
 (h W G h1).mono λe w' ⟨he,G',k1,k2,k3⟩=>by
  refine⟨he,λi=>G' i\/i=b,⟨G',k1,h2.fr k2 h3,λq=>?_,λi=>Iff.rfl⟩,k2.mono (λi q=>(h4 i).2 (.inl q)),λi q=>?_⟩
  .rcases k3 b q with c|c
   .exact h3 c
   .have:=h2.lt;omega
  .rcases q with q|q
   .exact(k3 i q).imp (λc=>(h4 i).2 (.inl c)) id
   .exact .inl ((h4 i).2 (.inr q))
theorem Duo.addB(k1:Frm R1)(k2:Frm R2)(h:Duo R1 R2 w0 w)(zk:Int)(zi zv:Nat):Duo R1 (withB R2 w.heap.size (opC3 zk zi zv)) w0 (w.alloc (.cells #[.int .i64 zk,.int .u32 zi,.int .u64 zv] 34)):=by
 have f:Fr NoF w (w.alloc (.cells #[.int .i64 zk,.int .u32 zi,.int .u64 zv] 34)):=(Fr.refl NoF w).alloc _;obtain⟨h0,F,G,h1,h2,h3,h4,h5⟩:=h
 refine⟨h0,F,λi=>G i\/i=w.heap.size,k1.fro h1 f (λ_ _ q=>q) (λq=>q),⟨G,k2.fro h2 f (λ_ _ q=>q) (λq=>q),Blk.new _ _ _ 3 _ _ rfl rfl (λi hi=>by
  match i,hi with
  |0,_=>rfl
  |1,_=>rfl
  |2,_=>rfl),λq=>?_,λi=>Iff.rfl⟩,λi q c=>?_,λi q=>?_,h5.trans f (λ_ c=>c.elim)⟩
 .have:=k2.lt h2 _ q;omega
 .rcases c with c|c
  .exact h3 i q c
  .have:=k1.lt h1 i q;omega
 .rcases q with q|q|q
  .exact h4 i (.inl q)
  .exact h4 i (.inr q)
  .have:=h5.size;omega
theorem Duo.dropB(h:Duo R1 (withB R2 b C) w0 w):Duo R1 R2 w0 w:=by
 obtain⟨h0,F,G,h1,⟨G2,k1,k2,k3,k4⟩,h3,h4,h5⟩:=h;exact⟨h0,F,G2,h1,k1,λi q c=>h3 i q ((k4 i).2 (.inl c)),λi q=>h4 i (q.imp id (λc=>(k4 i).2 (.inl c))),h5⟩
theorem Duo.blkB(h:Duo R1 (withB R2 b C) w0 w):Blk w b 3 C:=by
 obtain⟨h0,F,G,h1,⟨G2,k1,k2,k3,k4⟩,h3,h4,h5⟩:=h;exact k2
end
def AnyL(p:PP)(q:Bool)(Z:Nat->Prop)(c:Nat)(M:AM)(m:Nat)(w:World)(F:Nat->Prop):Prop:=∃r g,Z r/\AnyK p q r c g M m w F
section
variable{p p1 p2:PP}{q qa qb:Bool}{r c:Nat}{g:Nat->Int}{Z:Nat->Prop}{M M2:AM}{m m2 id v:Nat}{w w0 w':World}{F:Nat->Prop}
theorem anyLFrm:Frm (AnyL p q Z c M m):=⟨λ⟨r,g,_,h⟩=>h.lt,λ⟨r,g,z,h⟩ f hG ht=>⟨r,g,z,h.fro f hG ht⟩⟩
theorem AnyK.np(h:AnyK p q r c g M m w F)(hm:m<50000):Calls prog 22 #[p.ptr] w λe w'=>e=.returned (.tuple #[.int .u32 (M.newPage p.n).1.1,.int .i64 (M.newPage p.n).1.2])/\Led (AnyL p q (λx=>x=r) c (M.newPage p.n).2 (m+100)) F w w':=by
 obtain⟨τ,P,RR,ok,X,S,H,A,O,G,hr,hc,hg⟩:=h;obtain⟨e1,A2⟩:=A.newPageE (P:=P);obtain⟨n1,n2⟩:=newPage_n (P:=P) A;refine(np_calls S H (by omega)).mono λe w' ⟨he,hl⟩=>⟨by rw[he,e1],hl.mono (λF' h'=>⟨r,_,rfl,τ,P,RR,ok,_,S,h'.more S (by omega),A2,AM.okA_np O,λhq=>⟨?_,(G hq).2⟩,by rw[n2,hr],by rw[n1];exact hc,λid=>rfl⟩)⟩
 rw[newPage_sc S (G hq).2 H.2.1 (by omega) H.2.2];exact(G hq).1
theorem AnyK.fe(h:AnyK p q r c g M m w F)(hm:m<50000)(hu:id<4294967296):Calls prog 24 #[p.ptr,.int .u32 id] w λe w'=>e=.returned (.int .i64 (M.fetch p.n id).1)/\Led (AnyL p q (λx=>x<=r+1/\(0<=g id->x=r)) c (M.fetch p.n id).2 (m+100)) F w w':=by
 obtain⟨τ,P,RR,ok,X,S,H,A,O,G,hr,hc,hg⟩:=h;obtain⟨e1,A2⟩:=A.fetchE (P:=P) id;obtain⟨n1,n2,n3,n4⟩:=fetch_n (P:=P) A id;refine(fe_calls S H (by omega) hu).mono λe w' ⟨he,hl⟩=>⟨by rw[he,e1],hl.mono (λF' h'=>⟨_,_,⟨by rw[<-hr];exact n3,λh0=>by rw[n4 (frame_frm (by rw[hg];exact h0)),hr]⟩,τ,P,RR,ok,_,S,h'.more S (by omega),A2,AM.okA_fe O,λhq=>⟨?_,(G hq).2⟩,rfl,by rw[n1];exact hc,λid=>rfl⟩)⟩
 rw[fetch_sc S (G hq).2 H.2.1 (by omega) H.2.2];exact(G hq).1
theorem AnyK.un(h:AnyK p q r c g M m w F)(hm:m<50000)(hu:id<4294967296):Calls prog 23 #[p.ptr,.int .u32 id] w λe w'=>e=.returned (.int .i64 (M.unpin id).1)/\Led (AnyL p q (λx=>x=r) c (M.unpin id).2 (m+100)) F w w':=by
 obtain⟨τ,P,RR,ok,X,S,H,A,O,G,hr,hc,hg⟩:=h;obtain⟨e1,A2⟩:=A.unpinE (P:=P) id;obtain⟨n1,n2⟩:=unpin_n (P:=P) A id;refine(un_calls S H (by omega) hu).mono λe w' ⟨he,hl⟩=>⟨by rw[he,e1],hl.mono (λF' h'=>⟨r,_,rfl,τ,P,RR,ok,_,S,h'.more S (by omega),A2,AM.okA_un O,λhq=>⟨?_,(G hq).2⟩,by rw[n2,hr],by rw[n1];exact hc,λid=>rfl⟩)⟩
 unfold PS.unpin
 split
 .exact(G hq).1
 .exact(G hq).1
theorem AnyK.wr(h:AnyK p q r c g M m w F)(hu:id<4294967296)(hv:v<18446744073709551616):Calls prog 26 #[p.ptr,.int .u32 id,.int .u64 v] w λe w'=>e=.returned (.int .i64 (M.write id v).1)/\Led (AnyL p q (λx=>x=r) (c+if M.held id=0 then 1 else 0) (M.write id v).2 (m+100)) F w w':=by
 obtain⟨τ,P,RR,ok,X,S,H,A,O,G,hr,hc,hg⟩:=h;obtain⟨e1,A2⟩:=A.writeE id hv;obtain⟨n1,n2⟩:=write_k A id v;rw[(A.heldE id).1]at n1;refine(wr_calls S H hu hv).mono λe w' ⟨he,hl⟩=>⟨by rw[he,e1],hl.mono (λF' h'=>⟨r,_,rfl,τ,P,RR,ok,_,S,h'.more S (by omega),A2,AM.okA_wr O,λhq=>⟨?_,(G hq).2⟩,by rw[n2,hr],by omega,λid=>rfl⟩)⟩
 unfold PS.write
 split
 .exact(G hq).1
 .exact(G hq).1
theorem AnyK.fl(h:AnyK p q r c g M m w F)(hm:m<50000)(hu:id<4294967296):Calls prog 27 #[p.ptr,.int .u32 id] w λe w'=>e=.returned (.int .i64 (M.flush id))/\Led (AnyL p q (λx=>x=r) c M (m+100)) F w w':=by
 obtain⟨τ,P,RR,ok,X,S,H,A,O,G,hr,hc,hg⟩:=h;obtain⟨e1,A2⟩:=A.flushE id;obtain⟨n1,n2⟩:=flush_n (n:=p.n) (X:=X) id;refine(fl_calls S H (by omega) hu).mono λe w' ⟨he,hl⟩=>⟨by rw[he,e1],hl.mono (λF' h'=>⟨r,_,rfl,τ,P,RR,ok,_,S,h'.more S (by omega),A2,O,λhq=>⟨?_,(G hq).2⟩,by rw[n2,hr],by rw[n1];exact hc,λid=>rfl⟩)⟩
 unfold PS.flush
 split
 .cases frm p.n X.f id with
  |none=>exact(G hq).1
  |some k=>show(X.clean k).2.sc=0;rw[clean_sc];exact(G hq).1
 .exact(G hq).1
theorem AnyK.de(h:AnyK p q r c g M m w F)(hm:m<50000)(hu:id<4294967296):Calls prog 28 #[p.ptr,.int .u32 id] w λe w'=>e=.returned (.int .i64 (M.delete id).1)/\Led (AnyL p q (λx=>x=r) c (M.delete id).2 (m+100)) F w w':=by
 obtain⟨τ,P,RR,ok,X,S,H,A,O,G,hr,hc,hg⟩:=h;obtain⟨e1,A2⟩:=A.deleteE (P:=P) id;obtain⟨n1,n2⟩:=delete_n (P:=P) A id;refine(de_calls S H (by omega) hu).mono λe w' ⟨he,hl⟩=>⟨by rw[he,e1],hl.mono (λF' h'=>⟨r,_,rfl,τ,P,RR,ok,_,S,h'.more S (by omega),A2,AM.okA_de O,λhq=>⟨?_,(G hq).2⟩,by rw[n2,hr],by omega,λid=>rfl⟩)⟩
 unfold PS.delete
 split
 .cases frm p.n X.f id with
  |none=>exact(G hq).1
  |some k=>dsimp only;split<;>exact(G hq).1
 .exact(G hq).1
theorem AnyK.fa(h:AnyK p q r c g M m w F)(hm:m<50000)(hn:p.n<=64):Calls prog 11 #[p.ptr] w λe w'=>e=.returned (.int .i64 0)/\Led (AnyL p q (λx=>x=r) c M (m+100)) F w w':=by
 obtain⟨τ,P,RR,ok,X,S,H,A,O,K,hr,hc,hg⟩:=h;refine(fa_calls S H (by omega) hn (sorts_by _ _)).mono ?_;rintro e w'⟨l,hp,_,he,hl⟩;have hlt:∀k∈l,k<p.n:=λk hk=>(dirL_mem.1 (hp.mem_iff.1 hk)).1
 obtain⟨n1,n2⟩:=flushL_n (X:=X) l hlt
 obtain⟨r1,r2,r3,r4⟩:=A.flushLE l (λk hk=>by
  obtain⟨k1,k2⟩:=dirL_mem.1 (hp.mem_iff.1 hk);refine⟨k1,λh0=>?_⟩;rw[A.inv.em k k1 h0]at k2
  cases k2)
 exact⟨by rw[he,r1];rfl,hl.mono (λF' h'=>⟨r,_,rfl,τ,P,RR,ok,_,S,h',r2,O,λhq=>⟨by rw[flushL_sc];exact(K hq).1,(K hq).2⟩,by rw[n2,hr],by rw[n1];exact hc,λid=>rfl⟩)⟩
theorem AnyK.ask(h:AnyK p q r c g M m w F)(hu:id<4294967296):Calls prog 15 #[p.ptr,.int .u32 id] w λe w'=>e=.returned (.int .i64 (g id))/\w=w':=by
 obtain⟨τ,P,RR,ok,X,S,H,A,O,K,hr,hc,hg⟩:=h;exact(fr_calls H hu).mono λe w' ⟨he,hw⟩=>⟨by rw[he,<-hg],hw⟩
theorem AnyK.reads(h:AnyK p q r c g M m w F):Calls prog 14 #[.pointer (some ⟨p.db,0,none⟩)] w λe w'=>e=.returned (.int .i64 (r:Nat))/\w=w':=by
 obtain⟨τ,P,RR,ok,X,S,H,A,O,K,hr,hc,hg⟩:=h;obtain⟨FD,FR,J,hF⟩:=H.1;obtain⟨s,k,pv,fv,mb,fh,nf,g1,hs,g3⟩:=J.cd;exact(dk_reads g1).mono λe w' ⟨he,hw⟩=>⟨by rw[he,<-hr,<-hs.rd];rfl,hw⟩
theorem AnyK.writes(h:AnyK p q r c g M m w F):∃x:Nat,x<=c/\Calls prog 16 #[.pointer (some ⟨p.db,0,none⟩)] w λe w'=>e=.returned (.int .i64 (x:Nat))/\w=w':=by
 obtain⟨τ,P,RR,ok,X,S,H,A,O,K,hr,hc,hg⟩:=h;obtain⟨FD,FR,J,hF⟩:=H.1;obtain⟨s,k,pv,fv,mb,fh,nf,g1,hs,g3⟩:=J.cd;refine⟨X.D.wr,by unfold cnt at hc;omega,(dk_writes g1).mono λe w' ⟨he,hw⟩=>⟨by rw[he,<-hs.wr];rfl,hw⟩⟩
theorem AnyK.few(h:AnyK p q r c g M m w F)(k:Nat):cntB14 k (λx=>decide (0<=g x))<=p.n:=by
 obtain⟨τ,P,RR,ok,X,S,H,A,O,K,hr,hc,hg⟩:=h;have e:X.frame p.n=g:=funext hg;rw[<-e];exact frames_n A k
theorem Duo.exL{R2:World->(Nat->Prop)->Prop}{Z:Nat->Prop}(h:Duo (AnyL p q Z c M m) R2 w0 w):∃r g,Z r/\Duo (AnyK p q r c g M m) R2 w0 w:=by
 obtain⟨h0,F,G,⟨r,g,z,h1⟩,h2⟩:=h;exact⟨r,g,z,h0,F,G,h1,h2⟩
theorem AnyK.okA(h:AnyK p q r c g M m w F):M.okA:=by
 obtain⟨τ,P,RR,ok,X,S,H,A,O,K⟩:=h;exact O
def moreW(j:Nat)(M:AM)(id:Nat):Nat:=if j=4/\0<M.pin id then 1 else 0
theorem held_pin(h:M.okA):(if M.held id=0 then 1 else 0)<=moreW 4 (M.write id v).2 id:=by
 unfold moreW AM.write;by_cases c:M.held id=0
 .rw[if_pos c,if_pos c]
  have:0<M.pin id:=by
   unfold AM.held at c;by_cases d:id∈M.ids
   .rw[if_pos d]at c
    by_cases e:M.pin id=0
    .rw[if_pos e]at c;cases c
    .omega
   .rw[if_neg d]at c;cases c
  rw[if_pos ⟨rfl,this⟩];exact Nat.le_refl _
 .rw[if_neg c];omega
theorem AnyL.more(h:AnyL p q Z c M m w F){Y:Nat->Prop}(hY:∀x,Z x->Y x){k:Nat}(hk:c<=k):AnyL p q Y k M m w F:=by
 obtain⟨x,g,z,τ,P,RR,ok,X,S,H,A,O,K,hr,hc,hg⟩:=h;exact⟨x,g,hY x z,τ,P,RR,ok,X,S,H,A,O,K,hr,by omega,hg⟩
theorem count_calls{b:Nat}{C:Nat->Value}(h64:p1.n<=64)(hn:p2.n=p1.n)(H:Duo (AnyK p1 qa r c g M m) (withB (AnyP p2 qb M m) b C) w0 w)(hm:m<50000)(zk:Int){zi zv j:Nat}(hu:zi<4294967296)(hv:zv<18446744073709551616)(hj:j<8)(ek:wrap64 ((IntKind.u64.wrap zk).tmod 8)=(j:Int)):
  Calls prog 7 #[p1.ptr,p2.ptr,.agg #[.int .i64 zk,.int .u32 zi,.int .u64 zv]] w λe w'=>e=.returned (.bool true)/\∃M',Duo (AnyL p1 qa (λx=>x<=r+(if j=1 then 1 else 0)/\(¬j=1\/0<=g zi->x=r)) (c+moreW j M' zi) M' (m+100)) (withB (AnyP p2 qb M' (m+100)) b C) w0 w':=by
 have key:∀{k:Nat} (M':AM) (w1:World),c+k<=c+moreW j M' zi->Duo (AnyL p1 qa (λx=>x=r) (c+k) M' (m+100)) (withB (AnyP p2 qb M' (m+100)) b C) w0 w1->∃M',Duo (AnyL p1 qa (λx=>x<=r+(if j=1 then 1 else 0)/\(¬j=1\/0<=g zi->x=r)) (c+moreW j M' zi) M' (m+100)) (withB (AnyP p2 qb M' (m+100)) b C) w0 w1:=λM' w1 hk h=>
  ⟨M',h.mono (λw F h=>h.more (λx e=>⟨by omega,λ_=>e⟩) hk) (λ_ _ h=>h)⟩
 have hO:M.okA:=by
  obtain⟨F,h1⟩:=H.one;exact h1.okA
 match j,hj,ek with
 |0,_,ek=>exact(same_new anyKFrm (withB.frm anyFrm) anyLFrm H (λW F h=>h.np hm) (withB.does (AnyP.do1 (by omega) λW F h=>hn▸h.np (by omega))) ek).mono λe w' ⟨he,h⟩=>⟨he,key (k:=0) _ w' (by omega) h⟩
 |1,_,ek=>exact(same_fetch anyKFrm (withB.frm anyFrm) anyLFrm H (λW F h=>h.fe hm hu) (withB.does (AnyP.do1 (by omega) λW F h=>hn▸h.fe (by omega) hu)) ek).mono λe w' ⟨he,h⟩=>⟨he,_,h.mono (λw F h=>h.more (λx e=>⟨e.1,λq=>e.2 (q.resolve_left (λc=>c rfl))⟩) (by omega)) (λ_ _ h=>h)⟩
 |2,_,ek=>exact(same_unpin anyKFrm (withB.frm anyFrm) anyLFrm H (λW F h=>h.un hm hu) (withB.does (AnyP.do1 (by omega) λW F h=>h.un (by omega) hu)) ek).mono λe w' ⟨he,h⟩=>⟨he,key (k:=0) _ w' (by omega) h⟩
 |3,_,ek=>exact(same_read (R1':=AnyL p1 qa (λx=>x=r) c M (m+100)) anyKFrm (withB.frm anyFrm) anyLFrm H (λW F h=>(h.any.rd hu).mono λe w' ⟨he,hw⟩=>⟨he,by subst hw;exact Led.refl (by
   obtain⟨τ,P,RR,ok,X,S,H,A⟩:=h;exact⟨r,g,rfl,τ,P,RR,ok,X,S,H.more S (by omega),A⟩)⟩) (withB.does (AnyP.do1 (k:=0) (by omega) λW F h=>quiet_led (R:=AnyP p2 qb M (m+0)) h (h.rd hu))) ek).mono λe w' ⟨he,h⟩=>⟨he,key (k:=0) _ w' (by omega) h⟩
 |4,_,ek=>exact(same_write anyKFrm (withB.frm anyFrm) anyLFrm H (λW F h=>h.wr hu hv) (withB.does (AnyP.do1 (by omega) λW F h=>h.wr hu hv)) ek).mono λe w' ⟨he,h⟩=>⟨he,key (M.write zi zv).2 w' (Nat.add_le_add_left (held_pin hO) c) h⟩
 |5,_,ek=>exact(same_flush anyKFrm (withB.frm anyFrm) anyLFrm H (λW F h=>h.fl hm hu) (withB.does (AnyP.do1 (by omega) λW F h=>h.fl (by omega) hu)) ek).mono λe w' ⟨he,h⟩=>⟨he,key (k:=0) _ w' (by omega) h⟩
 |6,_,ek=>exact(same_flushAll anyKFrm (withB.frm anyFrm) anyLFrm H (λW F h=>h.fa hm h64) (withB.does (AnyP.do1 (k:=100) (by omega) λW F h=>(h.fa (by omega) (hn▸h64)).mono λe w' ⟨q,hl⟩=>⟨q,hl.mono (λF' h'=>h'.any)⟩)) ek).mono λe w' ⟨he,h⟩=>⟨he,key (k:=0) _ w' (by omega) h⟩
 |7,_,ek=>exact(same_delete anyKFrm (withB.frm anyFrm) anyLFrm H (λW F h=>h.de hm hu) (withB.does (AnyP.do1 (by omega) λW F h=>h.de (by omega) hu)) ek).mono λe w' ⟨he,h⟩=>⟨he,key (k:=0) _ w' (by omega) h⟩
end
end
section
open Go.ChangeAt Go.ChangeShapes Go.Proofs.Tryz Go.RowKit Go.WideShapes
def tabZ:List Int:=Lib.deBruijn64tab.map λ(n:Nat)=>(n:Int)
theorem tabG:prog.globalNamed "math/bits.deBruijn64tab" =some 0:=by kernel_rfl
theorem tabT_of{W:World}(h:laidMet prog [("math/bits.deBruijn64tab",Lib.tabData .u8 tabZ)] W):TabT W:=by
 have h1:=Lib.tabIs_of_head (t:=186) (e:=5) (n:=64) tabG (by kernel_rfl) underlying186 underlying5 (by kernel_rfl) (by kernel_rfl) h;refine⟨λj hj=>?_⟩;have h2:=h1.cell tabG j (by simpa[tabZ]using hj);rw[h2]
 congr 2
 unfold tabZ;rw[List.getD_eq_getElem?_getD,List.getElem?_map,List.getD_eq_getElem?_getD];have:j<Lib.deBruijn64tab.length:=hj;simp[List.getElem?_eq_getElem this]
noncomputable def tabWorld(os:Os):World:=
 let w0:=World.holding prog os ⟨#[],#[],[]⟩
 {w0 with heap:=w0.heap.modify 0 fun
   |.cells _ t frozen=>.cells (tabZ.map λz=>Value.int .u8 z).toArray t frozen
   |o=>o}
theorem tab_met(os:Os)(args:Array Value):laidMet prog [("math/bits.deBruijn64tab",Lib.tabData .u8 tabZ)] ((tabWorld os).forCall (λ_ _=>0) ⟨#[],args,[]⟩).memory:=
 laidMet_of_run' 8 (by kernel_rfl) (by kernel_rfl)
theorem ownM:ownKnob prog.godebug=none:=by kernel_rfl
theorem laidOutM:laidOutB prog=true:=by kernel_rfl
structure OpZ where
 k:Int
 id:Nat
 x:Nat
def ArgZ(w:World)(v:Value)(zs:List OpZ):Prop:=
 ∃a c,v=.slice a zs.length c/\zs.length<=c/\c<=maxLen/\(0<zs.length->∃b off,a=some ⟨b,off,none⟩/\b<w.heap.size/\∀(j:Nat) (z:OpZ),zs[j]?=some z->
  w.cell? ⟨b,off+j*3,none⟩=some (.int .i64 z.k)/\w.cell? ⟨b,off+j*3+1,none⟩=some (.int .u32 z.id)/\w.cell? ⟨b,off+j*3+2,none⟩=some (.int .u64 z.x))/\
  ∀z∈zs,z.id<4294967296/\z.x<18446744073709551616
section
open Go.Deep
theorem cellsOpO:prog.cellsOf 34=3:=by kernel_rfl
theorem cellsIo:prog.cellsOf 3=1:=by kernel_rfl
theorem cellsUo:prog.cellsOf 32=1:=by kernel_rfl
theorem cellsVo:prog.cellsOf 25=1:=by kernel_rfl
theorem trod3o{H:Type}{enc:TypeId×Value->H}{P:Program}{w:World}{base:Nat}{spare:Nat->Bool}{held:Bool}{t:TypeId}{f0 f1 f2:Field}{fuel:Nat}{cs:List Value}{x:DataW H×List MemPlace}(ht:P.underlying t=some (.struct #[f0,f1,f2]))(h:DataW.trod enc P w base spare held fuel t cs=some x):
  ∃y0 y1 y2 n,x=(.agg [y0.1,y1.1,y2.1],y0.2++(y1.2++y2.2))/\DataW.trod enc P w base spare held n f0.type ((cs.drop f0.offset).take (P.cellsOf f0.type))=some y0/\
   DataW.trod enc P w base spare held n f1.type ((cs.drop f1.offset).take (P.cellsOf f1.type))=some y1/\DataW.trod enc P w base spare held n f2.type ((cs.drop f2.offset).take (P.cellsOf f2.type))=some y2:=by
 obtain⟨xs,n,_,rfl,hl,hlen,hf⟩:=DataW.trod_struct ht h
 match xs,hlen with
 |[y0,y1,y2],_=>exact⟨y0,y1,y2,n,by simp,by simpa using hf 0 f0 rfl,by simpa using hf 1 f1 rfl,by simpa using hf 2 f2 rfl⟩
theorem nat_ofO{k:IntKind}{z:Int}(h:(Lit.int k z).wf=true)(hm:k.min=0):∃m:Nat,z=(m:Int)/\(m:Int)<=k.max:=by
 simp only[Lit.wf,Bool.and_eq_true,decide_eq_true_eq]at h;obtain⟨m,rfl⟩:=Int.eq_ofNat_of_zero_le (show 0<=z by omega);exact⟨m,rfl,h.2⟩
theorem add_at3o(b off i j:Nat):((({block:=b,off:=off,spot:=none}:Addr).add (i*3)).add j)=⟨b,off+i*3+j,none⟩:=by
 unfold Addr.add;by_cases h1:i*3=0
 .by_cases h2:j=0
  .simp[h1,h2]
  .simp[h1,h2]
 .by_cases h2:j=0
  .simp[h1,h2]
  .simp[h1,h2]
theorem list3o{α:Type}{cs:List α}(h:cs.length=3):∃c0 c1 c2,cs=[c0,c1,c2]:=by
 match cs,h with
 |[c0,c1,c2],_=>exact⟨c0,c1,c2,rfl⟩
theorem argO_of{H:Type}{enc:TypeId×Value->H}{W:World}{base fuel:Nat}{held:Bool}{a1:Option Addr}{len1 cap1:Nat}{x:DataW H×List MemPlace}
  (h:DataW.trod enc prog W base (λ_=>true) held fuel 23 [.slice a1 len1 cap1]=some x):∃zs,ArgZ W (.slice a1 len1 cap1) zs:=by
 rcases open_slice underlying23 h with⟨hcs,_⟩|⟨a,len,cap,m,n,D,Pl,hcs,_,hl,hm,hmm,_,hi⟩
 .simp at hcs
  obtain⟨rfl,rfl,rfl⟩:=hcs;exact⟨[],none,0,rfl,by simp,by unfold maxLen;omega,λh=>by simp at h,λz hz=>by cases hz⟩
 .simp at hcs
  obtain⟨rfl,rfl,rfl⟩:=hcs;simp only[if_true]at hmm
  have each:∀i,∃z:OpZ,(z.id<4294967296/\z.x<18446744073709551616)/\(i<len1->W.cell? ((a.add (i*3)).add 0)=some (.int .i64 z.k)/\W.cell? ((a.add (i*3)).add 1)=some (.int .u32 z.id)/\W.cell? ((a.add (i*3)).add 2)=some (.int .u64 z.x)):=by
   intro i;by_cases hil:i<len1
   .obtain⟨cs,hc,ht⟩:=hi i (by omega)
    rw[cellsOpO]at hc;obtain⟨_,hlen,hat⟩:=World.cells?_some hc;obtain⟨y0,y1,y2,n',_,t0,t1,t2⟩:=trod3o underlying34 ht;obtain⟨v0,v1,v2,rfl⟩:=list3o hlen;have g0:=hat 0 (by omega);have g1:=hat 1 (by omega);have g2:=hat 2 (by omega);simp only[cellsIo,cellsUo,cellsVo,List.drop_zero,List.drop_succ_cons,List.take_succ_cons,List.take_zero]at t0 t1 t2;obtain⟨z0,e0,_,_⟩:=DataW.trod_int underlying3 t0;obtain⟨z1,e1,_,wf1⟩:=DataW.trod_int underlying32 t1;obtain⟨z2,e2,_,wf2⟩:=DataW.trod_int underlying25 t2;obtain⟨m1,rfl,b1⟩:=nat_ofO wf1 rfl;obtain⟨m2,rfl,b2⟩:=nat_ofO wf2 rfl;simp at e0 e1 e2;subst e0 e1 e2;exact⟨⟨z0,m1,m2⟩,⟨by show m1<4294967296;simp[IntKind.max,IntKind.bits,IntKind.signed]at b1;omega,by show m2<18446744073709551616;simp[IntKind.max,IntKind.bits,IntKind.signed]at b2;omega⟩,λ_=>⟨g0,g1,g2⟩⟩
   .exact⟨⟨0,0,0⟩,⟨by decide,by decide⟩,λh=>(hil h).elim⟩
  obtain⟨f,hf⟩:=Classical.skolem.1 each;refine⟨(List.range len1).map f,some a,cap1,by simp,by simp;exact hl,hm,λh0=>?_,λz hz=>?_⟩
  rotate_left
  .obtain⟨i,_,rfl⟩:=List.mem_map.1 hz
   exact(hf i).1
  simp only[List.length_map,List.length_range]at h0;obtain⟨b,off,spot⟩:=a;have c0:=((hf 0).2 h0).1
  have hs:spot=none:=by
   cases spot with
   |none=>rfl
   |some q=>
    simp only[Nat.zero_mul,Addr.add,World.cell?]at c0
    split at c0<;>simp at c0
  subst hs;rw[add_at3o]at c0;refine⟨b,off,rfl,by have:=World.block_lt_of_cell? (w:=W) (a:=⟨b,off+0*3+0,none⟩) c0;exact this,λj z hj=>?_⟩;rw[List.getElem?_map]at hj
  have hjl:j<len1:=by
   rcases Nat.lt_or_ge j len1 with q|q
   .exact q
   .rw[List.getElem?_eq_none (by simpa using q)]at hj;cases hj
  rw[List.getElem?_range hjl]at hj;obtain rfl:f j=z:=by simpa using hj
  have:=(hf j).2 hjl;rw[add_at3o,add_at3o,add_at3o]at this;exact this
theorem has_slice{W:World}{base:Nat}{a:Addr}{len1 cap1:Nat}(h:Value.okWide prog W .any base 24 (.slice (some a) len1 cap1)):a.spot=none/\a.block<W.heap.size:=by
 simp only[Value.okWide,underlying24,Cell.okWide,Cell.ok]at h;obtain⟨_,_,_,h2,row,cells,h3,_⟩:=h;refine⟨h2,?_⟩;unfold World.shape? at h3;rcases Nat.lt_or_ge a.block W.heap.size with q|q
 .exact q
 .rw[Array.getElem?_eq_none q]at h3;cases h3
theorem argI_of{H:Type}{enc:TypeId×Value->H}{W:World}{base fuel:Nat}{held:Bool}{a1:Option Addr}{len1 cap1:Nat}{x:DataW H×List MemPlace}
  (hv:∀a,a1=some a->a.spot=none/\a.block<W.heap.size)(h:DataW.trod enc prog W base (λ_=>true) held fuel 24 [.slice a1 len1 cap1]=some x):∃l:List Int,SlZ W (.slice a1 len1 cap1) l/\l.length=len1:=by
 rcases open_slice underlying24 h with⟨hcs,_⟩|⟨a,len,cap,m,n,D,Pl,hcs,_,hl,hm,hmm,_,hi⟩
 .simp at hcs
  obtain⟨rfl,rfl,rfl⟩:=hcs;exact⟨[],SlC.nil _ _,rfl⟩
 .simp at hcs
  obtain⟨rfl,rfl,rfl⟩:=hcs;simp only[if_true]at hmm
  have each:∀i,∃z:Int,i<len1->W.cell? ((a.add (i*1)).add 0)=some (.int .i64 z):=by
   intro i;by_cases hil:i<len1
   .obtain⟨cs,hc,ht⟩:=hi i (by omega)
    rw[cellsIo]at hc;obtain⟨_,hlen,hat⟩:=World.cells?_some hc
    match cs,hlen with
    |[v0],_=>
     have g0:=hat 0 (by omega);obtain⟨z0,e0,_,_⟩:=DataW.trod_int underlying3 ht;simp at e0;subst e0;exact⟨z0,λ_=>g0⟩
   .exact⟨0,λh=>(hil h).elim⟩
  obtain⟨f,hf⟩:=Classical.skolem.1 each;have hzl:((List.range len1).map f).length=len1:=by simp
  refine⟨(List.range len1).map f,?_,hzl⟩;unfold SlZ;rw[hzl];by_cases h0:0<len1
  .obtain⟨b,off,spot⟩:=a
   have c0:=hf 0 h0
   have hs:spot=none:=by
    cases spot with
    |none=>rfl
    |some q=>
     simp only[Nat.zero_mul,Addr.add,World.cell?]at c0
     split at c0<;>simp at c0
   subst hs
   have ad:∀i,((({block:=b,off:=off,spot:=none}:Addr).add (i*1)).add 0)=⟨b,off+i,none⟩:=by
    intro i;unfold Addr.add;by_cases h1:i=0<;>simp[h1]
   rw[ad]at c0;refine⟨_,cap1,rfl,by simp,λu hu=>?_,hl,hm,.inr ⟨b,off,rfl,World.block_lt_of_cell? (w:=W) (a:=⟨b,off+0,none⟩) c0,λj u hj=>?_⟩⟩
   .obtain⟨z,_,rfl⟩:=List.mem_map.1 hu;rfl
   .rw[List.map_map,List.getElem?_map]at hj
    have hjl:j<len1:=by
     rcases Nat.lt_or_ge j len1 with q|q
     .exact q
     .rw[List.getElem?_eq_none (by simpa using q)]at hj;cases hj
    rw[List.getElem?_range hjl]at hj;obtain rfl:Value.int .i64 (f j)=u:=by simpa using hj
    have:=hf j hjl;rw[ad]at this;exact this
  .obtain rfl:len1=0:=by omega
   obtain⟨e1,e2⟩:=hv _ rfl;obtain⟨b,off,spot⟩:=a;simp only at e1 e2;subst e1;exact⟨_,cap1,rfl,by simp,λu hu=>by simp at hu,hl,hm,.inr ⟨b,off,rfl,e2,λj u hj=>by simp at hj⟩⟩
end
end
end Go.Proofs.YtpkbkhffglikhaaGreatDoor
