/- Part 41. -/
import Derived.Test.YtoenclhimbpfeaaGreatDoorW40
namespace Go.Proofs.YtoenclhimbpfeaaGreatDoor
set_option linter.all false
set_option maxHeartbeats 16000000
set_option maxRecDepth 100000
section
open Go.Maps Go.Proofs.Tryz Go.RowKit
section
variable{w w':World}{db m:Nat}{r:RS}{F:Nat->Prop}{p:PP}{q:Bool}{M:AM}
theorem C5(h:CD db r m w F)(h0:r.stops=false)(t:Int)(ht:bg t.toNat)(hl:900000<=t):Calls prog 20 #[.pointer (some ⟨db,0,none⟩),.int .i64 t] w λe w'=>e=.returned (.tuple #[])/\Led (CD db {r with left:=(t.toNat:Int)} m) F w w':=by
 obtain⟨s,c,pv,fv,mb,fh,nf,h1,h2,h3,h4⟩:=h;refine(DB h1 t ht).mono ?_;rintro e w'⟨he,hd,f⟩;exact⟨he,F,⟨_,c,pv,fv,mb,fh,nf,hd,h2.late h0 (t:=t.toNat) (by omega),h3,h4⟩,f.mono (λi q=>(h4 i).2 (.inl q)),λi q=>.inl q⟩
theorem au.late(h:au p q M m w F)(t:Int)(ht:bg t.toNat)(hl:900000<=t):Calls prog 20 #[.pointer (some ⟨p.db,0,none⟩),.int .i64 t] w λe w'=>e=.returned (.tuple #[])/\Led (au p q M m) F w w':=by
 obtain⟨τ,P,RR,ok,X,S,H,A,O,K⟩:=h;refine(H.1.disk S (Q:=λe _=>e=.returned (.tuple #[])) (Nat.le_refl m) (λFD hd=>C5 hd A.fine.st t ht hl)).mono ?_;rintro e w'⟨he,hl⟩
 have hI:Inv p.n X.f {X.D with left:=(t.toNat:Int)}:=by
  obtain⟨s,hs⟩:=H.2.1.dr;exact H.2.1.disk (λi hi h0=>H.2.1.has i hi h0) ⟨s,⟨hs.room,hs.L,hs.rd,hs.wr,hs.st,λe=>(by have:=hs.st;rw[A.fine.st]at this;rw[<-this]at e;cases e),hs.nr,hs.ns,hs.np⟩⟩ H.2.1.vd
 exact⟨he,hl.mono (λF' h'=>⟨τ,P,RR,ok,{X with D:={X.D with left:=(t.toNat:Int)}},S,⟨h',hI,H.2.2⟩,⟨hI,A.ids,A.room,A.pin,A.val,A.cl,⟨A.fine.st,A.fine.nr,A.fine.ns⟩⟩,O,K⟩)⟩
theorem oq:Frm (jU p q M m) where
 lt:=λh=>au.lt h.any
 fro:=λ⟨τ,P,RR,ok,X,S,H,A,O,K,C⟩ f hG ht=>⟨τ,P,RR,ok,X,S,⟨H.1.fro S f hG ht,H.2⟩,A,O,K,C⟩
theorem jU.cd(h:jU p q M m w F):∃D FD,CD p.db D m w FD/\D.ids=M.ids/\∀x∈M.ids,aw D.L x=M.val x:=by
 obtain⟨τ,P,RR,ok,X,S,H,A,O,K,C⟩:=h;obtain⟨FD,FR,J,hF⟩:=H.1;refine⟨X.D,FD,J.cd,A.ids,λx hx=>?_⟩;rw[A.val x (A.pos hx) hx];unfold seenF
 cases e:frm p.n X.f x with
 |none=>rfl
 |some k=>
  obtain⟨k1,k2⟩:=bQ e;have:=A.cl k k1 (by rw[k2];have:=A.pos hx;omega) (C k k1);rw[k2]at this;exact this
def LV(db:Nat)(ids:List Nat)(val:Nat->Nat)(m:Nat)(w:World)(F:Nat->Prop):Prop:=∃D,CD db D m w F/\rZ D/\D.ids=ids/\∀x∈ids,aw D.L x=val x
theorem jU.left(h:jU p q M m w F):Calls prog 18 #[.pointer (some ⟨p.db,0,none⟩)] w λe w'=>∃lb F',e=.returned (.pointer (some ⟨lb,0,none⟩))/\LV lb M.ids M.val 0 w' F'/\(∀i,F' i->w.heap.size<=i)/\Fr NoF w w':=by
 obtain⟨D,FD,h1,h2,h3⟩:=h.cd;refine(ui h1).mono ?_;rintro e w'⟨lb,F',he,hd,hn,f⟩;exact⟨lb,F',he,⟨D.copy,hd,⟨rfl,rfl,rfl⟩,h2,h3⟩,hn,f⟩
theorem LV.fr0{ids:List Nat}{val:Nat->Nat}(h:LV db ids val m w F)(f:Fr NoF w w'):LV db ids val m w' F:=by
 obtain⟨D,h1,h2⟩:=h;exact⟨D,h1.fr0 f,h2⟩
theorem LV.pages{ids:List Nat}{val:Nat->Nat}(h:LV db ids val m w F):Calls prog 12 #[.pointer (some ⟨db,0,none⟩)] w λe w'=>∃v,e=.returned v/\OwK .u32 w.heap.size 34 w' v ids/\Fr NoF w w':=by
 obtain⟨D,h1,h2,h3,h4⟩:=h;have:=qx h1;rw[show D.L.map (·.1)=ids from h3]at this;exact this
theorem LV.read{ids:List Nat}{val:Nat->Nat}{id:Nat}(h:LV db ids val m w F)(hm:m<100000)(hi:id∈ids)(hu:id<4294967296):Calls prog 13 #[.pointer (some ⟨db,0,none⟩),.int .u32 id] w λe w'=>e=.returned (.tuple #[.int .u64 (val id),.int .i64 0])/\Led (LV db ids val (m+1)) F w w':=by
 obtain⟨D,h1,h2,h3,h4⟩:=h;obtain⟨r1,r2,r3,r4,r5⟩:=nC h2 (id:=id) (by rw[h3];exact hi);refine(tW h1 hm (id:=id) (by unfold aN;omega)).mono ?_;rintro e w'⟨he,hl⟩;exact⟨by rw[he,r1,h4 id hi];rfl,hl.mono (λF' h'=>⟨_,h',r2,r3.trans h3,λx hx=>by rw[r5];exact h4 x hx⟩)⟩
end
section
variable{p:PP}{w:World}{F:Nat->Prop}{R':World->(Nat->Prop)->Prop}
theorem zK(fr:Frm R')(hl:∀i,F i->i<w.heap.size)(ht:0<w.heap.size)
  (hc:∀W,Fr NoF w W->Calls prog 43 #[p.ptr] W λe w'=>e=.returned (.int .i64 0)/\Led R' F W w'):
  Calls prog 21 #[p.ptr,.agg #[.int .i64 6,.int .u32 0,.int .u64 0]] w λe w'=>e=.returned (.agg #[.int .i64 0,.int .u32 0,.int .u64 0])/\Led R' F w w':=by
 obtain⟨W,hW⟩:∃W,W=((w.alloc (.cells #[.int .i64 6,.int .u32 0,.int .u64 0] 36)).alloc (.cells #[.int .i64 0,.int .u32 0,.int .u64 0] 48)).alloc (.cells #[.int .i64 0,.int .u32 0,.int .u64 0] 48):=⟨_,rfl⟩
 have f0:Fr NoF w W:=by
  rw[hW];exact(((Fr.refl NoF w).alloc (.cells #[.int .i64 6,.int .u32 0,.int .u64 0] 36)).alloc (.cells #[.int .i64 0,.int .u32 0,.int .u64 0] 48)).alloc (.cells #[.int .i64 0,.int .u32 0,.int .u64 0] 48)
 have b0:Blk W w.heap.size 3 (λi=>match i with|0=>.int .i64 6|1=>.int .u32 0|_=>.int .u64 0):=by
  rw[hW];exact((lQ w _ _ _).alloc _).alloc _
 have b1:Blk W (w.heap.size+1) 3 zAn:=by
  have b1:=(lQ (w.alloc (.cells #[.int .i64 6,.int .u32 0,.int .u64 0] 36)) (.int .i64 0) (.int .u32 0) (.int .u64 0) (t:=48)).alloc (.cells #[.int .i64 0,.int .u32 0,.int .u64 0] 48);rw[World.size_alloc]at b1;rw[hW];exact b1
 have b2:Blk W (w.heap.size+1+1) 3 zAn:=by
  have b2:=lQ ((w.alloc (.cells #[.int .i64 6,.int .u32 0,.int .u64 0] 36)).alloc (.cells #[.int .i64 0,.int .u32 0,.int .u64 0] 48)) (.int .i64 0) (.int .u32 0) (.int .u64 0) (t:=48);rw[World.size_alloc,World.size_alloc]at b2;rw[hW];exact b2
 have hs:W.heap.size=w.heap.size+3:=by rw[hW];simp only[World.size_alloc]
 have HC:=Hd (hc W f0);have KE:=Hd (λ(w1:World) (h1:Led R' F W w1)=>xt fr hs f0 hl ht b1 b2 h1);have hb0:=b0.lt;have x0:=b0.cell (i:=0) (by omega);clear hc f0 b0 b1 b2 hs;unfold PP.ptr at*;go_enter func21,ntmps21
 go_wp2_with fail
 rw[<-hW];refine HC.out.mono ?_;rintro e w1⟨rfl,hl1⟩;obtain⟨c1,c2,c3⟩:=KE.out w1 hl1;have HR:=Hd ((((c1.other (a:=⟨w.heap.size+1+1,0,none⟩) (by simp) (.int .i64 0)).set 0 (.int .i64 0)).set 1 (.int .u32 0)).set 2 (.int .u64 0));have HL:=Hd (c3 ((((w1.setCell ⟨w.heap.size+1+1,0,none⟩ (.int .i64 0)).setCell ⟨w.heap.size+1,0,none⟩ (.int .i64 0)).setCell ⟨w.heap.size+1,1,none⟩ (.int .u32 0)).setCell ⟨w.heap.size+1,2,none⟩ (.int .u64 0)) (by repeat(first|exact Fr.refl _ _|refine Fr.setCell ?_ (.inl (by first|exact .inl rfl|exact .inr rfl)) _)));obtain⟨a0,a1,a2,d0,d1,d2,z0,z1,z2,y0,y1,y2,l1,l2⟩:=aW c1 c2;clear c1 c2 c3 hl1 hW
 go_wp2_with fail
 (try simp only[Exit.inBlock,Exit.then])
 refine bodyPost_ret (af Tryz.results21 _ _ HR.out rfl underlying48 rfl (by kernel_rfl)) rfl ?_;exact⟨rfl,HL.out⟩
end
end
end Go.Proofs.YtoenclhimbpfeaaGreatDoor
