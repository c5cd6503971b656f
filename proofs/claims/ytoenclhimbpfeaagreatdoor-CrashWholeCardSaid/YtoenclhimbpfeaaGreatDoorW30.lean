/- Part 30. -/
import Derived.Test.YtoenclhimbpfeaaGreatDoorW29
namespace Go.Proofs.YtoenclhimbpfeaaGreatDoor
set_option linter.all false
set_option maxHeartbeats 16000000
set_option maxRecDepth 100000
section
open Go.Maps Go.Proofs.Tryz Go.RowKit
structure FrS where
 id:Nat
 val:Nat
 pins:Nat
 dirty:Bool
def zF:FrS:=⟨0,0,0,false⟩
def frX(x:FrS)(j:Nat):Value:=match j with
 |0=>.int .u32 x.id
 |1=>.int .u64 x.val
 |2=>.int .i64 x.pins
 |_=>.bool x.dirty
def frV(f:Nat->FrS)(i:Nat):Value:=frX (f (i/4)) (i%4)
theorem lL(f:Nat->FrS)(k:Nat){j:Nat}(hj:j<4):frV f (k*4+j)=frX (f k) j:=by
 unfold frV;rw[show(k*4+j)/4=k from by omega,show(k*4+j)%4=j from by omega]
theorem D9(f:Nat->FrS)(k:Nat):frV f (k*4)=.int .u32 (f k).id:=lL f k (j:=0) (by omega)
theorem DU(f:Nat->FrS)(k:Nat):frV f (k*4+1)=.int .u64 (f k).val:=lL f k (j:=1) (by omega)
theorem Ec(f:Nat->FrS)(k:Nat):frV f (k*4+2)=.int .i64 (f k).pins:=lL f k (j:=2) (by omega)
theorem DO(f:Nat->FrS)(k:Nat):frV f (k*4+3)=.bool (f k).dirty:=lL f k (j:=3) (by omega)
theorem oO(f:Nat->FrS)(k:Nat){j:Nat}(hj:j<4)(x:FrS)(u:Value)(hu:u=frX x j)(ho:∀i,i<4->¬i=j->frX x i=frX (f k) i):upd (frV f) (k*4+j) u=frV (upd f k x):=by
 funext i
 by_cases e:i=k*4+j
 .subst e;rw[upd_same,lL _ _ hj,upd_same,hu]
 .rw[aa _ _ e]
  unfold frV;by_cases e2:i/4=k
  .rw[e2,upd_same,ho _ (by omega) (by omega)]
  .rw[aa _ _ e2]
theorem qi(f:Nat->FrS)(k p:Nat):upd (frV f) (k*4+2) (.int .i64 (p:Nat))=frV (upd f k {f k with pins:=p}):=
 oO f k (by omega) _ _ rfl (λi hi h=>by
  match i,hi,h with
  |0,_,_=>rfl
  |1,_,_=>rfl
  |2,_,h=>exact absurd rfl h
  |3,_,_=>rfl)
theorem lI(f:Nat->FrS)(k:Nat)(b:Bool):upd (frV f) (k*4+3) (.bool b)=frV (upd f k {f k with dirty:=b}):=
 oO f k (by omega) _ _ rfl (λi hi h=>by
  match i,hi,h with
  |0,_,_=>rfl
  |1,_,_=>rfl
  |2,_,_=>rfl
  |3,_,h=>exact absurd rfl h)
theorem lj(f:Nat->FrS)(k v:Nat):upd (frV f) (k*4+1) (.int .u64 (v:Nat))=frV (upd f k {f k with val:=v}):=
 oO f k (by omega) _ _ rfl (λi hi h=>by
  match i,hi,h with
  |0,_,_=>rfl
  |1,_,h=>exact absurd rfl h
  |2,_,_=>rfl
  |3,_,_=>rfl)
theorem Dy(f:Nat->FrS)(k:Nat)(x:FrS):upd (upd (upd (upd (frV f) (k*4) (.int .u32 (x.id:Nat))) (k*4+1) (.int .u64 (x.val:Nat))) (k*4+2) (.int .i64 (x.pins:Nat))) (k*4+3) (.bool x.dirty)=frV (upd f k x):=by
 funext i
 by_cases e2:i/4=k
 .have h4:i=k*4\/i=k*4+1\/i=k*4+2\/i=k*4+3:=by omega
  rcases h4 with rfl|rfl|rfl|rfl
  .rw[D9,upd_same,aa _ _ (by omega),aa _ _ (by omega),aa _ _ (by omega),upd_same]
  .rw[DU,upd_same,aa _ _ (by omega),aa _ _ (by omega),upd_same]
  .rw[Ec,upd_same,aa _ _ (by omega),upd_same]
  .rw[DO,upd_same,upd_same]
 .rw[aa _ _ (by omega),aa _ _ (by omega),aa _ _ (by omega),aa _ _ (by omega)]
  unfold frV;rw[aa _ _ e2]
def plV(pl:Nat->Option Int):Int->Option Value:=λx=>if x<0 then none else(pl x.toNat).map (Value.int .i64)
def bN(pl:Nat->Option Int)(id:Nat)(x:Option Int):Nat->Option Int:=λy=>if y=id then x else pl y
theorem cq(pl:Nat->Option Int)(id:Nat)(x:Option Int):bN pl id x id=x:=by simp[bN]
theorem bI(pl:Nat->Option Int){id y:Nat}(x:Option Int)(h:¬y=id):bN pl id x y=pl y:=by simp[bN,h]
theorem zy(pl:Nat->Option Int)(id:Nat):plV pl (id:Int)=(pl id).map (Value.int .i64):=by
 unfold plV;rw[if_neg (by omega)];rfl
theorem vH(pl:Nat->Option Int)(id:Nat)(x:Option Int):dJ (plV pl) (id:Int) (x.map (Value.int .i64))=plV (bN pl id x):=by
 funext z
 by_cases e:z=(id:Int)
 .subst e;rw[gd,zy,cq]
 .rw[eH _ _ e]
  unfold plV;by_cases h:z<0
  .rw[if_pos h,if_pos h]
  .rw[if_neg h,if_neg h,bI _ _ (by omega)]
theorem MVi:MV prog 111 34 3 .u32 (.int .i64 0):=⟨underlying111,underlying34,λw=>by kernel_rfl⟩
structure PP where
 n:Nat
 pb:Nat
 db:Nat
 fb:Nat
 mb:Nat
 rv:Value
 ev:Value
 eh:Nat->Nat
 eL:Nat
 iv:Value
 ih:Nat->Nat
 iL:Nat
def PP.own(p:PP)(i:Nat):Prop:=i=p.pb\/i=p.fb\/i=p.mb\/LF p.ev p.eh p.eL i\/LF p.iv p.ih p.iL i
def PP.ptr(p:PP):Value:=.pointer (some ⟨p.pb,0,none⟩)
def pH(p:PP)(ce ci sc:Nat)(i:Nat):Value:=match i with
 |0=>.pointer (some ⟨p.db,0,none⟩)
 |1=>p.rv
 |2=>.slice (some ⟨p.fb,0,none⟩) p.n p.n
 |3=>.map (some p.mb)
 |4=>.int .i64 p.n
 |5=>.int .i64 ce
 |6=>p.ev
 |7=>.int .i64 p.n
 |8=>.int .i64 ci
 |9=>p.iv
 |_=>.int .i64 sc
theorem Gh(p:PP)(ce ci sc x:Nat):upd (pH p ce ci sc) 5 (.int .i64 (x:Nat))=pH p x ci sc:=by
 funext j
 match j with
 |0=>rfl
 |1=>rfl
 |2=>rfl
 |3=>rfl
 |4=>rfl
 |5=>rfl
 |6=>rfl
 |7=>rfl
 |8=>rfl
 |9=>rfl
 |j+10=>simp[upd,pH]
theorem Gf(p:PP)(ce ci sc x:Nat):upd (pH p ce ci sc) 8 (.int .i64 (x:Nat))=pH p ce x sc:=by
 funext j
 match j with
 |0=>rfl
 |1=>rfl
 |2=>rfl
 |3=>rfl
 |4=>rfl
 |5=>rfl
 |6=>rfl
 |7=>rfl
 |8=>rfl
 |9=>rfl
 |j+10=>simp[upd,pH]
theorem Gw(p:PP)(ce ci sc x:Nat):∀i,i<11->upd (pH p ce ci sc) 10 (.int .i64 (x:Nat)) i=pH p ce ci x i:=by
 intro j hj
 match j with
 |0=>rfl
 |1=>rfl
 |2=>rfl
 |3=>rfl
 |4=>rfl
 |5=>rfl
 |6=>rfl
 |7=>rfl
 |8=>rfl
 |9=>rfl
 |10=>rfl
 |j+11=>omega
structure MP(w:World)(p:PP)(f:Nat->FrS)(pl:Nat->Option Int)(E I:Nat->Bool)(sc m:Nat):Prop where
 hd:Blk w p.pb 11 (pH p (cntB E p.n) (cntB I p.n) sc)
 fr:Blk w p.fb (p.n*4) (frV f)
 mp:∃c,c<=m/\MpV prog 34 .u32 (.int .i64 0) w p.mb c (plV pl)
 se:LS w p.n E p.ev p.eh p.eL
 si:LS w p.n I p.iv p.ih p.iL
 d1:¬p.fb=p.pb/\¬p.mb=p.pb/\¬p.mb=p.fb
 d2:∀i,LF p.ev p.eh p.eL i->¬i=p.pb/\¬i=p.fb/\¬i=p.mb/\¬LF p.iv p.ih p.iL i
 d3:∀i,LF p.iv p.ih p.iL i->¬i=p.pb/\¬i=p.fb/\¬i=p.mb
 tab:dE w
 nt:¬p.own 0
 bd:sc<=m/\∀i,(f i).id<4294967296/\(f i).val<18446744073709551616/\(f i).pins<=m
section
variable{w w':World}{p:PP}{f:Nat->FrS}{pl:Nat->Option Int}{E I:Nat->Bool}{sc m:Nat}
theorem MP.hn(H:MP w p f pl E I sc m):1<=p.n/\p.n<=65535:=⟨H.se.r.lo,H.se.r.hi⟩
theorem MP.fro(H:MP w p f pl E I sc m){G:Nat->Prop}(g:Fr G w w')(hG:∀i,p.own i->¬G i)(ht:¬G 0):MP w' p f pl E I sc m:=by
 obtain⟨c,hc,hm⟩:=H.mp;exact⟨H.hd.fr g (hG _ (.inl rfl)),H.fr.fr g (hG _ (.inr (.inl rfl))),⟨c,hc,hm.fr g (hG _ (.inr (.inr (.inl rfl))))⟩,⟨H.se.r.fr g (λk q=>hG k (.inr (.inr (.inr (.inl q))))),H.se.dom⟩,⟨H.si.r.fr g (λk q=>hG k (.inr (.inr (.inr (.inr q))))),H.si.dom⟩,H.d1,H.d2,H.d3,H.tab.fr g ht,H.nt,H.bd⟩
theorem MP.fr0(H:MP w p f pl E I sc m)(g:Fr NoF w w'):MP w' p f pl E I sc m:=H.fro g (λ_ _ q=>q) id
theorem MP.lt(H:MP w p f pl E I sc m):∀i,p.own i->i<w.heap.size:=by
 obtain⟨c,hc,hm⟩:=H.mp;rintro i(rfl|rfl|rfl|q|q)
 .exact H.hd.lt
 .exact H.fr.lt
 .exact hm.lt
 .exact H.se.r.lt i q
 .exact H.si.r.lt i q
theorem MP.more(H:MP w p f pl E I sc m){k:Nat}(hk:m<=k):MP w p f pl E I sc k:=by
 obtain⟨c,hc,hm⟩:=H.mp;exact⟨H.hd,H.fr,⟨c,by omega,hm⟩,H.se,H.si,H.d1,H.d2,H.d3,H.tab,H.nt,by have:=H.bd.1;omega,λi=>⟨(H.bd.2 i).1,(H.bd.2 i).2.1,by have:=(H.bd.2 i).2.2;omega⟩⟩
theorem MP.ce(H:MP w p f pl E I sc m)(i:Nat)(hi:i<11):w.cell? ⟨p.pb,i,none⟩=some (pH p (cntB E p.n) (cntB I p.n) sc i):=H.hd.cell hi
theorem MP.cf(H:MP w p f pl E I sc m){k:Nat}(hk:k<p.n):w.cell? ⟨p.fb,k*4,none⟩=some (.int .u32 (f k).id)/\w.cell? ⟨p.fb,k*4+1,none⟩=some (.int .u64 (f k).val)/\w.cell? ⟨p.fb,k*4+2,none⟩=some (.int .i64 (f k).pins)/\w.cell? ⟨p.fb,k*4+3,none⟩=some (.bool (f k).dirty):=by
 have h0:=H.fr.cell (i:=k*4) (by omega);have h1:=H.fr.cell (i:=k*4+1) (by omega);have h2:=H.fr.cell (i:=k*4+2) (by omega);have h3:=H.fr.cell (i:=k*4+3) (by omega);rw[D9]at h0;rw[DU]at h1;rw[Ec]at h2;rw[DO]at h3;exact⟨h0,h1,h2,h3⟩
theorem MP.cE(H:MP w p f pl E I sc m):LC w p.pb 4 11 (pH p (cntB E p.n) (cntB I p.n) sc) p.n E p.ev p.eh p.eL:=⟨H.hd,by omega,rfl,rfl,rfl,H.se,λq=>(H.d2 _ q).1 rfl⟩
theorem MP.cI(H:MP w p f pl E I sc m):LC w p.pb 7 11 (pH p (cntB E p.n) (cntB I p.n) sc) p.n I p.iv p.ih p.iL:=⟨H.hd,by omega,rfl,rfl,rfl,H.si,λq=>(H.d3 _ q).1 rfl⟩
theorem Ex{id:Nat}(h:id<4294967296):(Lit.int .u32 (id:Nat)).wf=true:=WalkArith.wf_u32 ⟨by omega,by omega⟩
theorem MP.look(H:MP w p f pl E I sc m){id:Nat}(hid:id<4294967296):(Instr.lookup 111 (.map (some p.mb)) (.int .u32 (id:Nat)) true).run prog w=.ok (.tuple #[.int .i64 ((pl id).getD 0),.bool (pl id).isSome]) w:=by
 obtain⟨c,hc,hm⟩:=H.mp;have:=hm.look_ok_run MVi (Ex hid);rw[zy]at this;rw[this]
 cases pl id<;>rfl
theorem MP.put(H:MP w p f pl E I sc m)(hm:m<900000){id:Nat}(hid:id<4294967296)(x:Int):∃w',(Instr.mapUpdate 111 (.map (some p.mb)) (.int .u32 (id:Nat)) (.int .i64 x)).run prog w=.ok () w'/\MP w' p f (bN pl id (some x)) E I sc (m+1)/\Fr (λi=>i=p.mb) w w':=by
 obtain⟨c,hc,hm⟩:=H.mp;obtain⟨w',h1,h2,h3⟩:=hm.put_run MVi (by omega) (Ex hid) (.int .i64 x);have h4:=vH pl id (some x);simp only[Option.map_some]at h4;rw[h4]at h2;refine⟨w',h1,⟨H.hd.fr h3 (λq=>H.d1.2.1 q.symm),H.fr.fr h3 (λq=>H.d1.2.2 q.symm),⟨_,?_,h2⟩,⟨H.se.r.fr h3 (λk q e=>(H.d2 k q).2.2.1 e),H.se.dom⟩,⟨H.si.r.fr h3 (λk q e=>(H.d3 k q).2.2 e),H.si.dom⟩,H.d1,H.d2,H.d3,H.tab.fr h3 (λe=>H.nt (.inr (.inr (.inl e)))),H.nt,by have:=H.bd.1;omega,λi=>⟨(H.bd.2 i).1,(H.bd.2 i).2.1,by have:=(H.bd.2 i).2.2;omega⟩⟩,h3⟩
 split<;>omega
theorem MP.del(H:MP w p f pl E I sc m){id:Nat}(hid:id<4294967296)(ty:TypeId):∃w',(Builtin.delete_ #[111,34] ty #[.map (some p.mb),.int .u32 (id:Nat)]).run prog w=.ok (.tuple #[]) w'/\MP w' p f (bN pl id none) E I sc m/\Fr (λi=>i=p.mb) w w':=by
 obtain⟨c,hc,hm⟩:=H.mp;obtain⟨w',h1,h2,h3⟩:=hm.del_run MVi (Ex hid) ty;have h4:=vH pl id none;simp only[Option.map_none]at h4;rw[h4]at h2;refine⟨w',h1,⟨H.hd.fr h3 (λq=>H.d1.2.1 q.symm),H.fr.fr h3 (λq=>H.d1.2.2 q.symm),⟨_,?_,h2⟩,⟨H.se.r.fr h3 (λk q e=>(H.d2 k q).2.2.1 e),H.se.dom⟩,⟨H.si.r.fr h3 (λk q e=>(H.d3 k q).2.2 e),H.si.dom⟩,H.d1,H.d2,H.d3,H.tab.fr h3 (λe=>H.nt (.inr (.inr (.inl e)))),H.nt,H.bd⟩,h3⟩
 split<;>omega
theorem MP.frs(H:MP w p f pl E I sc m){f':Nat->FrS}(hb:Blk w' p.fb (p.n*4) (frV f'))(g:Fr (λi=>i=p.fb) w w'){m':Nat}(hm:m<=m')(hk:∀i,(f' i).id<4294967296/\(f' i).val<18446744073709551616/\(f' i).pins<=m'):MP w' p f' pl E I sc m':=by
 obtain⟨c,hc,hm⟩:=H.mp;exact⟨H.hd.fr g (λq=>H.d1.1 q.symm),hb,⟨c,by omega,hm.fr g (λq=>H.d1.2.2 q)⟩,⟨H.se.r.fr g (λk q e=>(H.d2 k q).2.1 e),H.se.dom⟩,⟨H.si.r.fr g (λk q e=>(H.d3 k q).2.1 e),H.si.dom⟩,H.d1,H.d2,H.d3,H.tab.fr g (λe=>H.nt (.inr (.inl e))),H.nt,by have:=H.bd.1;omega,hk⟩
theorem MP.scan(H:MP w p f pl E I sc m){x m':Nat}(hx:x<=m')(hm:m<=m'):MP (w.setCell ⟨p.pb,10,none⟩ (.int .i64 (x:Nat))) p f pl E I x m'/\Fr (λi=>i=p.pb) w (w.setCell ⟨p.pb,10,none⟩ (.int .i64 (x:Nat))):=by
 have g:Fr (λi=>i=p.pb) w (w.setCell ⟨p.pb,10,none⟩ (.int .i64 (x:Nat))):=(Fr.refl (λi=>i=p.pb) w).setCell (p:=⟨p.pb,10,none⟩) (.inl rfl) _;obtain⟨c,hc,hm⟩:=H.mp;exact⟨⟨(H.hd.set _ _).congr (Gw p _ _ _ _),H.fr.fr g (λq=>H.d1.1 q),⟨c,by omega,hm.fr g (λq=>H.d1.2.1 q)⟩,⟨H.se.r.fr g (λk q e=>(H.d2 k q).1 e),H.se.dom⟩,⟨H.si.r.fr g (λk q e=>(H.d3 k q).1 e),H.si.dom⟩,H.d1,H.d2,H.d3,H.tab.fr g (λe=>H.nt (.inl e)),H.nt,hx,λi=>⟨(H.bd.2 i).1,(H.bd.2 i).2.1,by have:=(H.bd.2 i).2.2;omega⟩⟩,g⟩
theorem Dz(H:MP w p f pl E I sc m):Calls prog 79 #[.pointer (some ⟨p.pb,4,none⟩)] w λe w'=>e=.returned (.int .i64 (cntB E p.n:Nat))/\w=w':=mJ H.cE
theorem C6(H:MP w p f pl E I sc m):Calls prog 79 #[.pointer (some ⟨p.pb,7,none⟩)] w λe w'=>e=.returned (.int .i64 (cntB I p.n:Nat))/\w=w':=mJ H.cI
theorem uB(H:MP w p f pl E I sc m)(x:Int):Calls prog 78 #[.pointer (some ⟨p.pb,7,none⟩),.int .i64 x] w λe w'=>e=.returned (.bool (gL I x))/\w=w':=nh H.cI x
theorem nM(H:MP w p f pl E I sc m):Calls prog 82 #[.pointer (some ⟨p.pb,4,none⟩)] w λe w'=>w=w'/\((cntB E p.n=0/\(∀x,E x=false)/\e=.returned (.int .i64 (-1)))\/∃x,x<p.n/\aT E x/\e=.returned (.int .i64 (x:Nat))):=jM H.tab H.cE
theorem xE(H:MP w p f pl E I sc m):Calls prog 82 #[.pointer (some ⟨p.pb,7,none⟩)] w λe w'=>w=w'/\((cntB I p.n=0/\(∀x,I x=false)/\e=.returned (.int .i64 (-1)))\/∃x,x<p.n/\aT I x/\e=.returned (.int .i64 (x:Nat))):=jM H.tab H.cI
theorem MP.setE(H:MP w p f pl E I sc m){c:Nat->Value}{E':Nat->Bool}(h:LC w' p.pb 4 11 c p.n E' p.ev p.eh p.eL)(hc:c=pH p (cntB E' p.n) (cntB I p.n) sc)(g:Fr (SF p.pb p.ev p.eh p.eL) w w'):MP w' p f pl E' I sc m/\Fr p.own w w':=by
 subst hc;obtain⟨c,hc,hm⟩:=H.mp;refine⟨⟨h.blk,H.fr.fr g ?_,⟨c,hc,hm.fr g ?_⟩,h.ls,⟨H.si.r.fr g ?_,H.si.dom⟩,H.d1,H.d2,H.d3,H.tab.fr g ?_,H.nt,H.bd⟩,g.mono ?_⟩
 .rintro(q|q)
  .exact H.d1.1 q
  .exact(H.d2 _ q).2.1 rfl
 .rintro(q|q)
  .exact H.d1.2.1 q
  .exact(H.d2 _ q).2.2.1 rfl
 .rintro k q(e|e)
  .exact(H.d3 k q).1 e
  .exact(H.d2 _ e).2.2.2 q
 .rintro(q|q)
  .exact H.nt (.inl q)
  .exact H.nt (.inr (.inr (.inr (.inl q))))
 .rintro i(q|q)
  .exact .inl q
  .exact .inr (.inr (.inr (.inl q)))
theorem MP.setI(H:MP w p f pl E I sc m){c:Nat->Value}{I':Nat->Bool}(h:LC w' p.pb 7 11 c p.n I' p.iv p.ih p.iL)(hc:c=pH p (cntB E p.n) (cntB I' p.n) sc)(g:Fr (SF p.pb p.iv p.ih p.iL) w w'):MP w' p f pl E I' sc m/\Fr p.own w w':=by
 subst hc;obtain⟨c,hc,hm⟩:=H.mp;refine⟨⟨h.blk,H.fr.fr g ?_,⟨c,hc,hm.fr g ?_⟩,⟨H.se.r.fr g ?_,H.se.dom⟩,h.ls,H.d1,H.d2,H.d3,H.tab.fr g ?_,H.nt,H.bd⟩,g.mono ?_⟩
 .rintro(q|q)
  .exact H.d1.1 q
  .exact(H.d3 _ q).2.1 rfl
 .rintro(q|q)
  .exact H.d1.2.1 q
  .exact(H.d3 _ q).2.2 rfl
 .rintro k q(e|e)
  .exact(H.d2 k q).1 e
  .exact(H.d2 k q).2.2.2 e
 .rintro(q|q)
  .exact H.nt (.inl q)
  .exact H.nt (.inr (.inr (.inr (.inr q))))
 .rintro i(q|q)
  .exact .inl q
  .exact .inr (.inr (.inr (.inr q)))
theorem bD{S:Nat->Bool}{x:Nat}{b:Bool}(h:S x=b):ap S x b=S:=by
 funext y
 by_cases e:y=x
 .subst e;rw[aM,h]
 .rw[aA _ _ e]
theorem Dd(H:MP w p f pl E I sc m){k:Nat}(hk:k<p.n)(hE:E k=false):Calls prog 59 #[.pointer (some ⟨p.pb,4,none⟩),.int .i64 k] w λe w'=>e=.returned (.tuple #[])/\MP w' p f pl (ap E k true) I sc m/\Fr p.own w w':=
 (sg H.cE hk hE).mono λe w' ⟨he,h,g⟩=>⟨he,H.setE h (by rw[show 4+1=5 from rfl,show((cntB E p.n:Nat)+1:Int)=((cntB (ap E k true) p.n:Nat):Int)from by rw[iP E hE p.n hk];omega];exact Gh _ _ _ _ _) g⟩
theorem Dt(H:MP w p f pl E I sc m){k:Nat}(hk:k<p.n)(hE:I k=false):Calls prog 59 #[.pointer (some ⟨p.pb,7,none⟩),.int .i64 k] w λe w'=>e=.returned (.tuple #[])/\MP w' p f pl E (ap I k true) sc m/\Fr p.own w w':=
 (sg H.cI hk hE).mono λe w' ⟨he,h,g⟩=>⟨he,H.setI h (by rw[show 7+1=8 from rfl,show((cntB I p.n:Nat)+1:Int)=((cntB (ap I k true) p.n:Nat):Int)from by rw[iP I hE p.n hk];omega];exact Gf _ _ _ _ _) g⟩
theorem AY(H:MP w p f pl E I sc m){k:Nat}(hk:k<p.n):Calls prog 88 #[.pointer (some ⟨p.pb,4,none⟩),.int .i64 k] w λe w'=>e=.returned (.tuple #[])/\MP w' p f pl (ap E k false) I sc m/\Fr p.own w w':=by
 cases hE:E k with
 |false=>
  rw[bD hE];refine(vN H.cE (x:=(k:Int)) (by unfold gL;rw[if_neg (by omega)];exact hE)).mono ?_;rintro e w'⟨he,rfl⟩;exact⟨he,H,Fr.refl _ _⟩
 |true=>
  have hq:=gu E hE p.n hk;exact(vG H.cE hE).mono λe w' ⟨he,h,g⟩=>⟨he,H.setE h (by rw[show 4+1=5 from rfl,show((cntB E p.n:Nat)-1:Int)=((cntB (ap E k false) p.n:Nat):Int)from by omega];exact Gh _ _ _ _ _) g⟩
theorem ro(H:MP w p f pl E I sc m){k:Nat}(hk:k<p.n):Calls prog 88 #[.pointer (some ⟨p.pb,7,none⟩),.int .i64 k] w λe w'=>e=.returned (.tuple #[])/\MP w' p f pl E (ap I k false) sc m/\Fr p.own w w':=by
 cases hE:I k with
 |false=>
  rw[bD hE];refine(vN H.cI (x:=(k:Int)) (by unfold gL;rw[if_neg (by omega)];exact hE)).mono ?_;rintro e w'⟨he,rfl⟩;exact⟨he,H,Fr.refl _ _⟩
 |true=>
  have hq:=gu I hE p.n hk;exact(vG H.cI hE).mono λe w' ⟨he,h,g⟩=>⟨he,H.setI h (by rw[show 7+1=8 from rfl,show((cntB I p.n:Nat)-1:Int)=((cntB (ap I k false) p.n:Nat):Int)from by omega];exact Gf _ _ _ _ _) g⟩
end
end
section
open Go.Proofs.Tryz Go.RowKit
structure Adv(σ:Type) where
 miss:σ->Nat->σ
 access:σ->Nat->Nat->σ
 set:σ->Nat->Bool->σ
 victim:σ->Nat->Option Nat
 aft:σ->Nat->σ
 remove:σ->Nat->σ
def Tld{τ:Type}(RR:World->τ->(Nat->Prop)->Prop)(s':τ)(F:Nat->Prop)(w w':World):Prop:=∃F',RR w' s' F'/\Fr F w w'/\∀i,F' i->F i\/w.heap.size<=i
def bk(n:Nat)(pg:Nat->Nat)(ev:Nat->Bool)(x:Nat):Prop:=x<n/\¬pg x=0/\ev x=true
structure aJ{τ:Type}(P:Adv τ)(RR:World->τ->(Nat->Prop)->Prop)(pb:Nat)(rv:Value)(n:Nat)(ok:Nat->τ->(Nat->Nat)->(Nat->Bool)->Prop):Prop where
 fr:∀{w w':World} {s:τ} {F G:Nat->Prop},RR w s F->Fr G w w'->(∀i,F i->¬G i)->RR w' s F
 lt:∀{w:World} {s:τ} {F:Nat->Prop},RR w s F->∀i,F i->i<w.heap.size
 more:∀{m k:Nat} {s:τ} {pg:Nat->Nat} {ev:Nat->Bool},ok m s pg ev->m<=k->ok k s pg ev
 same:∀{m:Nat} {s:τ} {pg pg':Nat->Nat} {ev ev':Nat->Bool},ok m s pg ev->(∀i,i<n->pg i=pg' i)->(∀i,i<n->¬pg i=0->ev i=ev' i)->ok m s pg' ev'
 miss:∀{w:World} {s:τ} {F:Nat->Prop} {m:Nat} {pg:Nat->Nat} {ev:Nat->Bool} {id b:Nat},RR w s F->ok m s pg ev->m<90000->1<=id->id<4294967296->(∀i,i<n->¬pg i=id)->
  w.cell? ⟨b,0,none⟩=some (.int .u32 id)->b<w.heap.size->¬F b->Calls prog 81 #[rv,.pointer (some ⟨b,0,none⟩)] w λe w'=>e=.returned (.tuple #[])/\Tld RR (P.miss s id) F w w'
 acc:∀{w:World} {s:τ} {F:Nat->Prop} {m:Nat} {pg:Nat->Nat} {ev:Nat->Bool} {id k b1 b2:Nat} {g:FuncId},RR w s F->ok m s pg ev->m<90000->1<=id->id<4294967296->k<n->(pg k=id\/pg k=0/\∀i,i<n->¬pg i=id)->
  w.cell? ⟨b1,0,none⟩=some (.int .i64 k)->w.cell? ⟨b2,0,none⟩=some (.int .u32 id)->b1<w.heap.size->b2<w.heap.size->¬F b1->¬F b2->
  (g=84\/g=89\/g=90)->
  Calls prog g #[rv,.pointer (some ⟨b1,0,none⟩),.pointer (some ⟨b2,0,none⟩)] w λe w'=>e=.returned (.tuple #[])/\Tld RR (P.access s k id) F w w'
 setT:∀{w:World} {s:τ} {F:Nat->Prop} {m:Nat} {pg:Nat->Nat} {ev:Nat->Bool} {k b:Nat} {g:FuncId},RR w s F->ok m s pg ev->m<90000->k<n->¬pg k=0->
  w.cell? ⟨b,0,none⟩=some (.int .i64 k)->b<w.heap.size->¬F b->(g=85\/g=70)->
  Calls prog g #[rv,.pointer (some ⟨b,0,none⟩)] w λe w'=>e=.returned (.tuple #[])/\Tld RR (P.set s k true) F w w'
 setF:∀{w:World} {s:τ} {F:Nat->Prop} {m:Nat} {pg:Nat->Nat} {ev:Nat->Bool} {k b:Nat},RR w s F->ok m s pg ev->m<90000->k<n->¬pg k=0->
  w.cell? ⟨b,0,none⟩=some (.int .i64 k)->b<w.heap.size->¬F b->
  Calls prog 91 #[rv,.pointer (some ⟨b,0,none⟩)] w λe w'=>e=.returned (.tuple #[])/\Tld RR (P.set s k false) F w w'
 rem:∀{w:World} {s:τ} {F:Nat->Prop} {m:Nat} {pg:Nat->Nat} {ev:Nat->Bool} {k b:Nat} {g:FuncId},RR w s F->ok m s pg ev->m<90000->k<n->¬pg k=0->
  w.cell? ⟨b,0,none⟩=some (.int .i64 k)->b<w.heap.size->¬F b->(g=108\/g=92)->
  Calls prog g #[rv,.pointer (some ⟨b,0,none⟩)] w λe w'=>e=.returned (.tuple #[])/\Tld RR (P.remove s k) F w w'
 ask:∀{w:World} {s:τ} {F:Nat->Prop} {m:Nat} {pg:Nat->Nat} {ev:Nat->Bool} {id:Nat},RR w s F->ok m s pg ev->m<90000->1<=id->id<4294967296->(∀i,i<n->¬pg i=id)->(∃x,bk n pg ev x)->
  w.cell? ⟨pb,1,none⟩=some rv->pb<w.heap.size->¬F pb->Calls prog 107 #[.pointer (some ⟨pb,0,none⟩),.int .u32 id] w λe w'=>
   (match P.victim s id with
    |none=>∃x:Int,e=.returned (.tuple #[.int .i64 x,.bool false])
    |some a=>e=.returned (.tuple #[.int .i64 a,.bool true]))/\Tld RR (P.aft s id) F w w'
 okMiss:∀{m:Nat} {s:τ} {pg:Nat->Nat} {ev:Nat->Bool} {id:Nat},ok m s pg ev->m<90000->1<=id->(∀i,i<n->¬pg i=id)->ok (m+1) (P.miss s id) pg ev
 okNew:∀{m:Nat} {s:τ} {pg:Nat->Nat} {ev:Nat->Bool} {id k:Nat},ok m s pg ev->m<90000->1<=id->id<4294967296->k<n->pg k=0->(∀i,i<n->¬pg i=id)->ok (m+1) (P.access s k id) (upd pg k id) (upd ev k false)
 okOld:∀{m:Nat} {s:τ} {pg:Nat->Nat} {ev:Nat->Bool} {id k:Nat},ok m s pg ev->m<90000->1<=id->k<n->pg k=id->ok (m+1) (P.access s k id) pg ev
 okSet:∀{m:Nat} {s:τ} {pg:Nat->Nat} {ev:Nat->Bool} {k:Nat} (b:Bool),ok m s pg ev->m<90000->k<n->¬pg k=0->ok (m+1) (P.set s k b) pg (upd ev k b)
 okRem:∀{m:Nat} {s:τ} {pg:Nat->Nat} {ev:Nat->Bool} {k:Nat},ok m s pg ev->m<90000->k<n->¬pg k=0->ok (m+1) (P.remove s k) (upd pg k 0) (upd ev k false)
 okYes:∀{m:Nat} {s:τ} {pg:Nat->Nat} {ev:Nat->Bool} {id x:Nat},ok m s pg ev->m<90000->1<=id->(∀i,i<n->¬pg i=id)->P.victim s id=some x->bk n pg ev x->ok (m+1) (P.aft s id) (upd pg x 0) (upd ev x false)
 okNo:∀{m:Nat} {s:τ} {pg:Nat->Nat} {ev:Nat->Bool} {id:Nat},ok m s pg ev->m<90000->1<=id->(∀i,i<n->¬pg i=id)->(∀x,P.victim s id=some x->¬bk n pg ev x)->ok (m+1) (P.aft s id) pg ev
end
section
open Go.Maps Go.Proofs.Tryz Go.RowKit
section
variable{w w':World}{p:PP}{f:Nat->FrS}{pl:Nat->Option Int}{E I:Nat->Bool}{sc m:Nat}
theorem gG(H:MP w p f pl E I sc m){id:Nat}(hid:id<4294967296)(hp:pl id=none):Calls prog 65 #[p.ptr,.int .u32 id] w λe w'=>e=.returned (.tuple #[.int .i64 (-1),.int .i64 3])/\w=w':=by
 have c3:w.cell? ⟨p.pb,3,none⟩=some (.map (some p.mb)):=H.ce 3 (by omega);have lk:=H.look hid;rw[hp]at lk;simp only[Option.getD_none,Option.isSome_none]at lk;have lb:=H.hd.lt;obtain⟨n,pb,db,fb,mb,rv,ev,eh,eL,iv,ih,iL⟩:=p;unfold PP.ptr
 dsimp only at*
 clear H hp;go_enter func65,ntmps65;go_wp2;go_returns;exact⟨rfl,rfl⟩
theorem aL(H:MP w p f pl E I sc m){id:Nat}(hid:id<4294967296){x:Int}(hp:pl id=some x):Calls prog 65 #[p.ptr,.int .u32 id] w λe w'=>e=.returned (.tuple #[.int .i64 x,.int .i64 0])/\w=w':=by
 have c3:w.cell? ⟨p.pb,3,none⟩=some (.map (some p.mb)):=H.ce 3 (by omega);have lk:=H.look hid;rw[hp]at lk;simp only[Option.getD_some,Option.isSome_some]at lk;have lb:=H.hd.lt;obtain⟨n,pb,db,fb,mb,rv,ev,eh,eL,iv,ih,iL⟩:=p;unfold PP.ptr
 dsimp only at*
 clear H hp;go_enter func65,ntmps65;go_wp2;go_returns;exact⟨rfl,rfl⟩
def oF(n:Nat)(f:Nat->FrS)(pl:Nat->Option Int)(id e:Nat):Prop:=(pl id=none/\e=3)\/(pl id=some (-1)/\e=5)\/∃k:Nat,k<n/\pl id=some (k:Int)/\(f k).pins=0/\e=5
theorem pd(H:MP w p f pl E I sc m){id e0:Nat}(hid:id<4294967296)(hp:oF p.n f pl id e0):Calls prog 68 #[p.ptr,.int .u32 id] w λe w'=>e=.returned (.tuple #[.int .i64 (-1),.int .i64 e0])/\w=w':=by
 have c2:w.cell? ⟨p.pb,2,none⟩=some (.slice (some ⟨p.fb,0,none⟩) p.n p.n):=H.ce 2 (by omega);have lb:=H.hd.lt;have lf:=H.fr.lt;have hn:=H.hn;rcases hp with⟨hp,rfl⟩|⟨hp,rfl⟩|⟨k,hk,hp,h0,rfl⟩
 .have HC:=Hd (gG H hid hp)
  obtain⟨n,pb,db,fb,mb,rv,ev,eh,eL,iv,ih,iL⟩:=p;unfold PP.ptr at*
  dsimp only at*
  clear H hp;go_enter func68,ntmps68
  go_wp2_with fail
  refine HC.out.mono ?_;rintro e w1⟨rfl,rfl⟩;go_wp2;go_returns;exact⟨rfl,rfl⟩
 .have HC:=Hd (aL H hid hp)
  obtain⟨n,pb,db,fb,mb,rv,ev,eh,eL,iv,ih,iL⟩:=p;unfold PP.ptr at*
  dsimp only at*
  clear H hp;go_enter func68,ntmps68
  go_wp2_with fail
  refine HC.out.mono ?_;rintro e w1⟨rfl,rfl⟩;go_wp2;go_returns;exact⟨rfl,rfl⟩
 .have HC:=Hd (aL H hid hp)
  obtain⟨_,_,cp,_⟩:=H.cf hk;rw[h0]at cp;obtain⟨n,pb,db,fb,mb,rv,ev,eh,eL,iv,ih,iL⟩:=p;unfold PP.ptr at*
  dsimp only at*
  clear H hp h0;go_enter func68,ntmps68
  go_wp2_with fail
  refine HC.out.mono ?_;rintro e w1⟨rfl,rfl⟩;have hne:((k:Int)==(-1))=false:=by simp<;>omega
  go_wp2;go_returns;exact⟨rfl,rfl⟩
theorem lS(H:MP w p f pl E I sc m){id k:Nat}(hid:id<4294967296)(hk:k<p.n)(hp:pl id=some (k:Int))(h0:¬(f k).pins=0):Calls prog 68 #[p.ptr,.int .u32 id] w λe w'=>e=.returned (.tuple #[.int .i64 k,.int .i64 0])/\w=w':=by
 have c2:w.cell? ⟨p.pb,2,none⟩=some (.slice (some ⟨p.fb,0,none⟩) p.n p.n):=H.ce 2 (by omega);have lb:=H.hd.lt;have lf:=H.fr.lt;have hn:=H.hn;have HC:=Hd (aL H hid hp);obtain⟨_,_,cp,_⟩:=H.cf hk;have h0':(((f k).pins:Int)==0)=false:=by simp<;>exact h0
 generalize(f k).pins=q at*;obtain⟨n,pb,db,fb,mb,rv,ev,eh,eL,iv,ih,iL⟩:=p;unfold PP.ptr at*
 dsimp only at*
 clear H hp h0;go_enter func68,ntmps68
 go_wp2_with fail
 refine HC.out.mono ?_;rintro e w1⟨rfl,rfl⟩;have hne:((k:Int)==(-1))=false:=by simp<;>omega
 go_wp2;go_returns;exact⟨rfl,rfl⟩
theorem bp(H:MP w p f pl E I sc m):Calls prog 60 #[p.ptr] w λe w'=>e=.returned (.bool (decide (cntB E p.n=0/\cntB I p.n=0)))/\w=w':=by
 have HE:=Hd (Dz H);have HI:=Hd (C6 H);have lb:=H.hd.lt;obtain⟨n,pb,db,fb,mb,rv,ev,eh,eL,iv,ih,iL⟩:=p;unfold PP.ptr
 dsimp only at*
 generalize cntB E n=a at*;generalize cntB I n=b at*;clear H;go_enter func60,ntmps60
 go_wp2_with fail
 refine HE.out.mono ?_;rintro e w1⟨rfl,rfl⟩;by_cases h:a=0
 .subst h
  go_wp2_with fail
  refine HI.out.mono ?_;rintro e w1⟨rfl,rfl⟩;go_wp2;go_returns;refine⟨?_,rfl⟩;by_cases h2:b=0<;>simp[h2]
 .have hne:((a:Int)==0)=false:=by simp<;>exact h
  go_wp2;go_returns;refine⟨?_,rfl⟩;simp[h]
end
end
end Go.Proofs.YtoenclhimbpfeaaGreatDoor
