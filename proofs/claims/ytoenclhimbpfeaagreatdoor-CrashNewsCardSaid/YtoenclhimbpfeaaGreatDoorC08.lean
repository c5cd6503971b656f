/- Part 8. -/
import Derived.Test.YtoenclhimbpfeaaGreatDoorC07
namespace Go.Proofs.YtoenclhimbpfeaaGreatDoor
set_option linter.all false
set_option maxHeartbeats 16000000
set_option maxRecDepth 100000
section
open Go.Maps Go.Proofs.Tryz Go.RowKit
structure FrS where
 id:Nat
 val:Nat
 pins:Nat
 dirty:Bool
def zF:FrS:=⟨0,0,0,false⟩
def frX(x:FrS)(j:Nat):Value:=match j with
 |0=>.int .u32 x.id
 |1=>.int .u64 x.val
 |2=>.int .i64 x.pins
 |_=>.bool x.dirty
def frV(f:Nat->FrS)(i:Nat):Value:=frX (f (i/4)) (i%4)
theorem frV_at(f:Nat->FrS)(k:Nat){j:Nat}(hj:j<4):frV f (k*4+j)=frX (f k) j:=by
 unfold frV;rw[show(k*4+j)/4=k from by omega,show(k*4+j)%4=j from by omega]
theorem frV_0(f:Nat->FrS)(k:Nat):frV f (k*4)=.int .u32 (f k).id:=frV_at f k (j:=0) (by omega)
theorem frV_1(f:Nat->FrS)(k:Nat):frV f (k*4+1)=.int .u64 (f k).val:=frV_at f k (j:=1) (by omega)
theorem frV_2(f:Nat->FrS)(k:Nat):frV f (k*4+2)=.int .i64 (f k).pins:=frV_at f k (j:=2) (by omega)
theorem frV_3(f:Nat->FrS)(k:Nat):frV f (k*4+3)=.bool (f k).dirty:=frV_at f k (j:=3) (by omega)
theorem frV_set(f:Nat->FrS)(k:Nat){j:Nat}(hj:j<4)(x:FrS)(u:Value)(hu:u=frX x j)(ho:∀i,i<4->¬i=j->frX x i=frX (f k) i):upd (frV f) (k*4+j) u=frV (upd f k x):=by
 funext i
 by_cases e:i=k*4+j
 .subst e;rw[upd_same,frV_at _ _ hj,upd_same,hu]
 .rw[upd_other _ _ e]
  unfold frV;by_cases e2:i/4=k
  .rw[e2,upd_same,ho _ (by omega) (by omega)]
  .rw[upd_other _ _ e2]
theorem frV_setd(f:Nat->FrS)(k:Nat)(b:Bool):upd (frV f) (k*4+3) (.bool b)=frV (upd f k {f k with dirty:=b}):=
 frV_set f k (by omega) _ _ rfl (fun i hi h=>by
  match i,hi,h with
  |0,_,_=>rfl
  |1,_,_=>rfl
  |2,_,_=>rfl
  |3,_,h=>exact absurd rfl h)
theorem frV_all(f:Nat->FrS)(k:Nat)(x:FrS):upd (upd (upd (upd (frV f) (k*4) (.int .u32 (x.id:Nat))) (k*4+1) (.int .u64 (x.val:Nat))) (k*4+2) (.int .i64 (x.pins:Nat))) (k*4+3) (.bool x.dirty)=frV (upd f k x):=by
 funext i
 by_cases e2:i/4=k
 .have h4:i=k*4∨i=k*4+1∨i=k*4+2∨i=k*4+3:=by omega
  rcases h4 with rfl|rfl|rfl|rfl
  .rw[frV_0,upd_same,upd_other _ _ (by omega),upd_other _ _ (by omega),upd_other _ _ (by omega),upd_same]
  .rw[frV_1,upd_same,upd_other _ _ (by omega),upd_other _ _ (by omega),upd_same]
  .rw[frV_2,upd_same,upd_other _ _ (by omega),upd_same]
  .rw[frV_3,upd_same,upd_same]
 .rw[upd_other _ _ (by omega),upd_other _ _ (by omega),upd_other _ _ (by omega),upd_other _ _ (by omega)]
  unfold frV;rw[upd_other _ _ e2]
def plV(pl:Nat->Option Int):Int->Option Value:=fun x=>if x<0 then none else(pl x.toNat).map (Value.int .i64)
def updO(pl:Nat->Option Int)(id:Nat)(x:Option Int):Nat->Option Int:=fun y=>if y=id then x else pl y
theorem updO_same(pl:Nat->Option Int)(id:Nat)(x:Option Int):updO pl id x id=x:=by simp[updO]
theorem updO_other(pl:Nat->Option Int){id y:Nat}(x:Option Int)(h:¬y=id):updO pl id x y=pl y:=by simp[updO,h]
theorem plV_at(pl:Nat->Option Int)(id:Nat):plV pl (id:Int)=(pl id).map (Value.int .i64):=by
 unfold plV;rw[if_neg (by omega)];rfl
theorem plV_upd(pl:Nat->Option Int)(id:Nat)(x:Option Int):updV (plV pl) (id:Int) (x.map (Value.int .i64))=plV (updO pl id x):=by
 funext z
 by_cases e:z=(id:Int)
 .subst e;rw[updV_same,plV_at,updO_same]
 .rw[updV_other _ _ e]
  unfold plV;by_cases h:z<0
  .rw[if_pos h,if_pos h]
  .rw[if_neg h,if_neg h,updO_other _ _ (by omega)]
theorem MVi:MV prog 111 34 3 .u32 (.int .i64 0):=⟨underlying111,underlying34,fun w=>by kernel_rfl⟩
structure PP where
 n:Nat
 pb:Nat
 db:Nat
 fb:Nat
 mb:Nat
 rv:Value
 ev:Value
 eh:Nat->Nat
 eL:Nat
 iv:Value
 ih:Nat->Nat
 iL:Nat
def PP.own(p:PP)(i:Nat):Prop:=i=p.pb∨i=p.fb∨i=p.mb∨LF p.ev p.eh p.eL i∨LF p.iv p.ih p.iL i
def PP.ptr(p:PP):Value:=.pointer (some ⟨p.pb,0,none⟩)
def pH(p:PP)(ce ci sc:Nat)(i:Nat):Value:=match i with
 |0=>.pointer (some ⟨p.db,0,none⟩)
 |1=>p.rv
 |2=>.slice (some ⟨p.fb,0,none⟩) p.n p.n
 |3=>.map (some p.mb)
 |4=>.int .i64 p.n
 |5=>.int .i64 ce
 |6=>p.ev
 |7=>.int .i64 p.n
 |8=>.int .i64 ci
 |9=>p.iv
 |_=>.int .i64 sc
theorem pH_5(p:PP)(ce ci sc x:Nat):upd (pH p ce ci sc) 5 (.int .i64 (x:Nat))=pH p x ci sc:=by
 funext j
 match j with
 |0=>rfl
 |1=>rfl
 |2=>rfl
 |3=>rfl
 |4=>rfl
 |5=>rfl
 |6=>rfl
 |7=>rfl
 |8=>rfl
 |9=>rfl
 |j+10=>simp[upd,pH]
theorem pH_8(p:PP)(ce ci sc x:Nat):upd (pH p ce ci sc) 8 (.int .i64 (x:Nat))=pH p ce x sc:=by
 funext j
 match j with
 |0=>rfl
 |1=>rfl
 |2=>rfl
 |3=>rfl
 |4=>rfl
 |5=>rfl
 |6=>rfl
 |7=>rfl
 |8=>rfl
 |9=>rfl
 |j+10=>simp[upd,pH]
theorem pH_10(p:PP)(ce ci sc x:Nat):∀i,i<11->upd (pH p ce ci sc) 10 (.int .i64 (x:Nat)) i=pH p ce ci x i:=by
 intro j hj
 match j with
 |0=>rfl
 |1=>rfl
 |2=>rfl
 |3=>rfl
 |4=>rfl
 |5=>rfl
 |6=>rfl
 |7=>rfl
 |8=>rfl
 |9=>rfl
 |10=>rfl
 |j+11=>omega
structure MP(w:World)(p:PP)(f:Nat->FrS)(pl:Nat->Option Int)(E I:Nat->Bool)(sc m:Nat):Prop where
 hd:Blk w p.pb 11 (pH p (cntB E p.n) (cntB I p.n) sc)
 fr:Blk w p.fb (p.n*4) (frV f)
 mp:∃c,c<=m∧MpV prog 34 .u32 (.int .i64 0) w p.mb c (plV pl)
 se:LS w p.n E p.ev p.eh p.eL
 si:LS w p.n I p.iv p.ih p.iL
 d1:¬p.fb=p.pb∧¬p.mb=p.pb∧¬p.mb=p.fb
 d2:∀i,LF p.ev p.eh p.eL i->¬i=p.pb∧¬i=p.fb∧¬i=p.mb∧¬LF p.iv p.ih p.iL i
 d3:∀i,LF p.iv p.ih p.iL i->¬i=p.pb∧¬i=p.fb∧¬i=p.mb
 tab:TabT w
 nt:¬p.own 0
 bd:sc<=m∧∀i,(f i).id<4294967296∧(f i).val<18446744073709551616∧(f i).pins<=m
section
variable{w w':World}{p:PP}{f:Nat->FrS}{pl:Nat->Option Int}{E I:Nat->Bool}{sc m:Nat}
theorem MP.hn(H:MP w p f pl E I sc m):1<=p.n∧p.n<=65535:=⟨H.se.r.lo,H.se.r.hi⟩
theorem MP.fro(H:MP w p f pl E I sc m){G:Nat->Prop}(g:Fr G w w')(hG:∀i,p.own i->¬G i)(ht:¬G 0):MP w' p f pl E I sc m:=by
 obtain⟨c,hc,hm⟩:=H.mp;exact⟨H.hd.fr g (hG _ (.inl rfl)),H.fr.fr g (hG _ (.inr (.inl rfl))),⟨c,hc,hm.fr g (hG _ (.inr (.inr (.inl rfl))))⟩,⟨H.se.r.fr g (fun k q=>hG k (.inr (.inr (.inr (.inl q))))),H.se.dom⟩,⟨H.si.r.fr g (fun k q=>hG k (.inr (.inr (.inr (.inr q))))),H.si.dom⟩,H.d1,H.d2,H.d3,H.tab.fr g ht,H.nt,H.bd⟩
theorem MP.fr0(H:MP w p f pl E I sc m)(g:Fr NoF w w'):MP w' p f pl E I sc m:=H.fro g (fun _ _ q=>q) id
theorem MP.lt(H:MP w p f pl E I sc m):∀i,p.own i->i<w.heap.size:=by
 obtain⟨c,hc,hm⟩:=H.mp;rintro i(rfl|rfl|rfl|q|q)
 .exact H.hd.lt
 .exact H.fr.lt
 .exact hm.lt
 .exact H.se.r.lt i q
 .exact H.si.r.lt i q
theorem MP.more(H:MP w p f pl E I sc m){k:Nat}(hk:m<=k):MP w p f pl E I sc k:=by
 obtain⟨c,hc,hm⟩:=H.mp;exact⟨H.hd,H.fr,⟨c,by omega,hm⟩,H.se,H.si,H.d1,H.d2,H.d3,H.tab,H.nt,by have:=H.bd.1;omega,fun i=>⟨(H.bd.2 i).1,(H.bd.2 i).2.1,by have:=(H.bd.2 i).2.2;omega⟩⟩
theorem MP.ce(H:MP w p f pl E I sc m)(i:Nat)(hi:i<11):w.cell? ⟨p.pb,i,none⟩=some (pH p (cntB E p.n) (cntB I p.n) sc i):=H.hd.cell hi
theorem MP.cf(H:MP w p f pl E I sc m){k:Nat}(hk:k<p.n):w.cell? ⟨p.fb,k*4,none⟩=some (.int .u32 (f k).id)∧w.cell? ⟨p.fb,k*4+1,none⟩=some (.int .u64 (f k).val)∧w.cell? ⟨p.fb,k*4+2,none⟩=some (.int .i64 (f k).pins)∧w.cell? ⟨p.fb,k*4+3,none⟩=some (.bool (f k).dirty):=by
 have h0:=H.fr.cell (i:=k*4) (by omega);have h1:=H.fr.cell (i:=k*4+1) (by omega);have h2:=H.fr.cell (i:=k*4+2) (by omega);have h3:=H.fr.cell (i:=k*4+3) (by omega);rw[frV_0]at h0;rw[frV_1]at h1;rw[frV_2]at h2;rw[frV_3]at h3;exact⟨h0,h1,h2,h3⟩
theorem MP.cE(H:MP w p f pl E I sc m):LC w p.pb 4 11 (pH p (cntB E p.n) (cntB I p.n) sc) p.n E p.ev p.eh p.eL:=⟨H.hd,by omega,rfl,rfl,rfl,H.se,fun q=>(H.d2 _ q).1 rfl⟩
theorem MP.cI(H:MP w p f pl E I sc m):LC w p.pb 7 11 (pH p (cntB E p.n) (cntB I p.n) sc) p.n I p.iv p.ih p.iL:=⟨H.hd,by omega,rfl,rfl,rfl,H.si,fun q=>(H.d3 _ q).1 rfl⟩
theorem wf_u{id:Nat}(h:id<4294967296):(Lit.int .u32 (id:Nat)).wf=true:=WalkArith.wf_u32 ⟨by omega,by omega⟩
theorem MP.put(H:MP w p f pl E I sc m)(hm:m<900000){id:Nat}(hid:id<4294967296)(x:Int):∃w',(Instr.mapUpdate 111 (.map (some p.mb)) (.int .u32 (id:Nat)) (.int .i64 x)).run prog w=.ok () w'∧MP w' p f (updO pl id (some x)) E I sc (m+1)∧Fr (fun i=>i=p.mb) w w':=by
 obtain⟨c,hc,hm⟩:=H.mp;obtain⟨w',h1,h2,h3⟩:=hm.put_run MVi (by omega) (wf_u hid) (.int .i64 x);have h4:=plV_upd pl id (some x);simp only[Option.map_some]at h4;rw[h4]at h2;refine⟨w',h1,⟨H.hd.fr h3 (fun q=>H.d1.2.1 q.symm),H.fr.fr h3 (fun q=>H.d1.2.2 q.symm),⟨_,?_,h2⟩,⟨H.se.r.fr h3 (fun k q e=>(H.d2 k q).2.2.1 e),H.se.dom⟩,⟨H.si.r.fr h3 (fun k q e=>(H.d3 k q).2.2 e),H.si.dom⟩,H.d1,H.d2,H.d3,H.tab.fr h3 (fun e=>H.nt (.inr (.inr (.inl e)))),H.nt,by have:=H.bd.1;omega,fun i=>⟨(H.bd.2 i).1,(H.bd.2 i).2.1,by have:=(H.bd.2 i).2.2;omega⟩⟩,h3⟩
 split<;>omega
theorem MP.frs(H:MP w p f pl E I sc m){f':Nat->FrS}(hb:Blk w' p.fb (p.n*4) (frV f'))(g:Fr (fun i=>i=p.fb) w w'){m':Nat}(hm:m<=m')(hk:∀i,(f' i).id<4294967296∧(f' i).val<18446744073709551616∧(f' i).pins<=m'):MP w' p f' pl E I sc m':=by
 obtain⟨c,hc,hm⟩:=H.mp;exact⟨H.hd.fr g (fun q=>H.d1.1 q.symm),hb,⟨c,by omega,hm.fr g (fun q=>H.d1.2.2 q)⟩,⟨H.se.r.fr g (fun k q e=>(H.d2 k q).2.1 e),H.se.dom⟩,⟨H.si.r.fr g (fun k q e=>(H.d3 k q).2.1 e),H.si.dom⟩,H.d1,H.d2,H.d3,H.tab.fr g (fun e=>H.nt (.inr (.inl e))),H.nt,by have:=H.bd.1;omega,hk⟩
theorem MP.scan(H:MP w p f pl E I sc m){x m':Nat}(hx:x<=m')(hm:m<=m'):MP (w.setCell ⟨p.pb,10,none⟩ (.int .i64 (x:Nat))) p f pl E I x m'∧Fr (fun i=>i=p.pb) w (w.setCell ⟨p.pb,10,none⟩ (.int .i64 (x:Nat))):=by
 have g:Fr (fun i=>i=p.pb) w (w.setCell ⟨p.pb,10,none⟩ (.int .i64 (x:Nat))):=(Fr.refl (fun i=>i=p.pb) w).setCell (p:=⟨p.pb,10,none⟩) (.inl rfl) _;obtain⟨c,hc,hm⟩:=H.mp;exact⟨⟨(H.hd.set _ _).congr (pH_10 p _ _ _ _),H.fr.fr g (fun q=>H.d1.1 q),⟨c,by omega,hm.fr g (fun q=>H.d1.2.1 q)⟩,⟨H.se.r.fr g (fun k q e=>(H.d2 k q).1 e),H.se.dom⟩,⟨H.si.r.fr g (fun k q e=>(H.d3 k q).1 e),H.si.dom⟩,H.d1,H.d2,H.d3,H.tab.fr g (fun e=>H.nt (.inl e)),H.nt,hx,fun i=>⟨(H.bd.2 i).1,(H.bd.2 i).2.1,by have:=(H.bd.2 i).2.2;omega⟩⟩,g⟩
theorem mp_lenE(H:MP w p f pl E I sc m):Calls prog 79 #[.pointer (some ⟨p.pb,4,none⟩)] w fun e w'=>e=.returned (.int .i64 (cntB E p.n:Nat))∧w=w':=len_calls H.cE
theorem mp_lenI(H:MP w p f pl E I sc m):Calls prog 79 #[.pointer (some ⟨p.pb,7,none⟩)] w fun e w'=>e=.returned (.int .i64 (cntB I p.n:Nat))∧w=w':=len_calls H.cI
theorem mp_hasI(H:MP w p f pl E I sc m)(x:Int):Calls prog 78 #[.pointer (some ⟨p.pb,7,none⟩),.int .i64 x] w fun e w'=>e=.returned (.bool (hasZ I x))∧w=w':=has_calls H.cI x
theorem mp_firstE(H:MP w p f pl E I sc m):Calls prog 82 #[.pointer (some ⟨p.pb,4,none⟩)] w fun e w'=>w=w'∧((cntB E p.n=0∧(∀x,E x=false)∧e=.returned (.int .i64 (-1)))∨∃x,x<p.n∧IsLeast E x∧e=.returned (.int .i64 (x:Nat))):=first_calls H.tab H.cE
theorem mp_firstI(H:MP w p f pl E I sc m):Calls prog 82 #[.pointer (some ⟨p.pb,7,none⟩)] w fun e w'=>w=w'∧((cntB I p.n=0∧(∀x,I x=false)∧e=.returned (.int .i64 (-1)))∨∃x,x<p.n∧IsLeast I x∧e=.returned (.int .i64 (x:Nat))):=first_calls H.tab H.cI
theorem MP.setE(H:MP w p f pl E I sc m){c:Nat->Value}{E':Nat->Bool}(h:LC w' p.pb 4 11 c p.n E' p.ev p.eh p.eL)(hc:c=pH p (cntB E' p.n) (cntB I p.n) sc)(g:Fr (SF p.pb p.ev p.eh p.eL) w w'):MP w' p f pl E' I sc m∧Fr p.own w w':=by
 subst hc;obtain⟨c,hc,hm⟩:=H.mp;refine⟨⟨h.blk,H.fr.fr g ?_,⟨c,hc,hm.fr g ?_⟩,h.ls,⟨H.si.r.fr g ?_,H.si.dom⟩,H.d1,H.d2,H.d3,H.tab.fr g ?_,H.nt,H.bd⟩,g.mono ?_⟩
 .rintro(q|q)
  .exact H.d1.1 q
  .exact(H.d2 _ q).2.1 rfl
 .rintro(q|q)
  .exact H.d1.2.1 q
  .exact(H.d2 _ q).2.2.1 rfl
 .rintro k q(e|e)
  .exact(H.d3 k q).1 e
  .exact(H.d2 _ e).2.2.2 q
 .rintro(q|q)
  .exact H.nt (.inl q)
  .exact H.nt (.inr (.inr (.inr (.inl q))))
 .rintro i(q|q)
  .exact .inl q
  .exact .inr (.inr (.inr (.inl q)))
theorem MP.setI(H:MP w p f pl E I sc m){c:Nat->Value}{I':Nat->Bool}(h:LC w' p.pb 7 11 c p.n I' p.iv p.ih p.iL)(hc:c=pH p (cntB E p.n) (cntB I' p.n) sc)(g:Fr (SF p.pb p.iv p.ih p.iL) w w'):MP w' p f pl E I' sc m∧Fr p.own w w':=by
 subst hc;obtain⟨c,hc,hm⟩:=H.mp;refine⟨⟨h.blk,H.fr.fr g ?_,⟨c,hc,hm.fr g ?_⟩,⟨H.se.r.fr g ?_,H.se.dom⟩,h.ls,H.d1,H.d2,H.d3,H.tab.fr g ?_,H.nt,H.bd⟩,g.mono ?_⟩
 .rintro(q|q)
  .exact H.d1.1 q
  .exact(H.d3 _ q).2.1 rfl
 .rintro(q|q)
  .exact H.d1.2.1 q
  .exact(H.d3 _ q).2.2 rfl
 .rintro k q(e|e)
  .exact(H.d2 k q).1 e
  .exact(H.d2 k q).2.2.2 e
 .rintro(q|q)
  .exact H.nt (.inl q)
  .exact H.nt (.inr (.inr (.inr (.inr q))))
 .rintro i(q|q)
  .exact .inl q
  .exact .inr (.inr (.inr (.inr q)))
theorem updB_id{S:Nat->Bool}{x:Nat}{b:Bool}(h:S x=b):updB S x b=S:=by
 funext y
 by_cases e:y=x
 .subst e;rw[updB_same,h]
 .rw[updB_other _ _ e]
theorem mp_addE(H:MP w p f pl E I sc m){k:Nat}(hk:k<p.n)(hE:E k=false):Calls prog 59 #[.pointer (some ⟨p.pb,4,none⟩),.int .i64 k] w fun e w'=>e=.returned (.tuple #[])∧MP w' p f pl (updB E k true) I sc m∧Fr p.own w w':=
 (add_in H.cE hk hE).mono fun e w' ⟨he,h,g⟩=>⟨he,H.setE h (by rw[show 4+1=5 from rfl,show((cntB E p.n:Nat)+1:Int)=((cntB (updB E k true) p.n:Nat):Int)from by rw[cntB_add E hE p.n hk];omega];exact pH_5 _ _ _ _ _) g⟩
theorem mp_dropE(H:MP w p f pl E I sc m){k:Nat}(hk:k<p.n):Calls prog 88 #[.pointer (some ⟨p.pb,4,none⟩),.int .i64 k] w fun e w'=>e=.returned (.tuple #[])∧MP w' p f pl (updB E k false) I sc m∧Fr p.own w w':=by
 cases hE:E k with
 |false=>
  rw[updB_id hE];refine(drop_no H.cE (x:=(k:Int)) (by unfold hasZ;rw[if_neg (by omega)];exact hE)).mono ?_;rintro e w'⟨he,rfl⟩;exact⟨he,H,Fr.refl _ _⟩
 |true=>
  have hq:=cntB_drop E hE p.n hk;exact(drop_in H.cE hE).mono fun e w' ⟨he,h,g⟩=>⟨he,H.setE h (by rw[show 4+1=5 from rfl,show((cntB E p.n:Nat)-1:Int)=((cntB (updB E k false) p.n:Nat):Int)from by omega];exact pH_5 _ _ _ _ _) g⟩
theorem mp_dropI(H:MP w p f pl E I sc m){k:Nat}(hk:k<p.n):Calls prog 88 #[.pointer (some ⟨p.pb,7,none⟩),.int .i64 k] w fun e w'=>e=.returned (.tuple #[])∧MP w' p f pl E (updB I k false) sc m∧Fr p.own w w':=by
 cases hE:I k with
 |false=>
  rw[updB_id hE];refine(drop_no H.cI (x:=(k:Int)) (by unfold hasZ;rw[if_neg (by omega)];exact hE)).mono ?_;rintro e w'⟨he,rfl⟩;exact⟨he,H,Fr.refl _ _⟩
 |true=>
  have hq:=cntB_drop I hE p.n hk;exact(drop_in H.cI hE).mono fun e w' ⟨he,h,g⟩=>⟨he,H.setI h (by rw[show 7+1=8 from rfl,show((cntB I p.n:Nat)-1:Int)=((cntB (updB I k false) p.n:Nat):Int)from by omega];exact pH_8 _ _ _ _ _) g⟩
end
end
section
open Go.Proofs.Tryz Go.RowKit
structure Adv(σ:Type) where
 miss:σ->Nat->σ
 access:σ->Nat->Nat->σ
 set:σ->Nat->Bool->σ
 victim:σ->Nat->Option Nat
 aft:σ->Nat->σ
 remove:σ->Nat->σ
def Tld{τ:Type}(RR:World->τ->(Nat->Prop)->Prop)(s':τ)(F:Nat->Prop)(w w':World):Prop:=∃F',RR w' s' F'∧Fr F w w'∧∀i,F' i->F i∨w.heap.size<=i
def Goer(n:Nat)(pg:Nat->Nat)(ev:Nat->Bool)(x:Nat):Prop:=x<n∧¬pg x=0∧ev x=true
structure RepSys{τ:Type}(P:Adv τ)(RR:World->τ->(Nat->Prop)->Prop)(pb:Nat)(rv:Value)(n:Nat)(ok:Nat->τ->(Nat->Nat)->(Nat->Bool)->Prop):Prop where
 fr:∀{w w':World} {s:τ} {F G:Nat->Prop},RR w s F->Fr G w w'->(∀i,F i->¬G i)->RR w' s F
 lt:∀{w:World} {s:τ} {F:Nat->Prop},RR w s F->∀i,F i->i<w.heap.size
 more:∀{m k:Nat} {s:τ} {pg:Nat->Nat} {ev:Nat->Bool},ok m s pg ev->m<=k->ok k s pg ev
 same:∀{m:Nat} {s:τ} {pg pg':Nat->Nat} {ev ev':Nat->Bool},ok m s pg ev->(∀i,i<n->pg i=pg' i)->(∀i,i<n->¬pg i=0->ev i=ev' i)->ok m s pg' ev'
 miss:∀{w:World} {s:τ} {F:Nat->Prop} {m:Nat} {pg:Nat->Nat} {ev:Nat->Bool} {id b:Nat},RR w s F->ok m s pg ev->m<90000->1<=id->id<4294967296->(∀i,i<n->¬pg i=id)->
  w.cell? ⟨b,0,none⟩=some (.int .u32 id)->b<w.heap.size->¬F b->Calls prog 81 #[rv,.pointer (some ⟨b,0,none⟩)] w fun e w'=>e=.returned (.tuple #[])∧Tld RR (P.miss s id) F w w'
 acc:∀{w:World} {s:τ} {F:Nat->Prop} {m:Nat} {pg:Nat->Nat} {ev:Nat->Bool} {id k b1 b2:Nat} {g:FuncId},RR w s F->ok m s pg ev->m<90000->1<=id->id<4294967296->k<n->(pg k=id∨pg k=0∧∀i,i<n->¬pg i=id)->
  w.cell? ⟨b1,0,none⟩=some (.int .i64 k)->w.cell? ⟨b2,0,none⟩=some (.int .u32 id)->b1<w.heap.size->b2<w.heap.size->¬F b1->¬F b2->
  (g=84∨g=89∨g=90)->
  Calls prog g #[rv,.pointer (some ⟨b1,0,none⟩),.pointer (some ⟨b2,0,none⟩)] w fun e w'=>e=.returned (.tuple #[])∧Tld RR (P.access s k id) F w w'
 setT:∀{w:World} {s:τ} {F:Nat->Prop} {m:Nat} {pg:Nat->Nat} {ev:Nat->Bool} {k b:Nat} {g:FuncId},RR w s F->ok m s pg ev->m<90000->k<n->¬pg k=0->
  w.cell? ⟨b,0,none⟩=some (.int .i64 k)->b<w.heap.size->¬F b->(g=85∨g=70)->
  Calls prog g #[rv,.pointer (some ⟨b,0,none⟩)] w fun e w'=>e=.returned (.tuple #[])∧Tld RR (P.set s k true) F w w'
 setF:∀{w:World} {s:τ} {F:Nat->Prop} {m:Nat} {pg:Nat->Nat} {ev:Nat->Bool} {k b:Nat},RR w s F->ok m s pg ev->m<90000->k<n->¬pg k=0->
  w.cell? ⟨b,0,none⟩=some (.int .i64 k)->b<w.heap.size->¬F b->
  Calls prog 91 #[rv,.pointer (some ⟨b,0,none⟩)] w fun e w'=>e=.returned (.tuple #[])∧Tld RR (P.set s k false) F w w'
 rem:∀{w:World} {s:τ} {F:Nat->Prop} {m:Nat} {pg:Nat->Nat} {ev:Nat->Bool} {k b:Nat} {g:FuncId},RR w s F->ok m s pg ev->m<90000->k<n->¬pg k=0->
  w.cell? ⟨b,0,none⟩=some (.int .i64 k)->b<w.heap.size->¬F b->(g=108∨g=92)->
  Calls prog g #[rv,.pointer (some ⟨b,0,none⟩)] w fun e w'=>e=.returned (.tuple #[])∧Tld RR (P.remove s k) F w w'
 ask:∀{w:World} {s:τ} {F:Nat->Prop} {m:Nat} {pg:Nat->Nat} {ev:Nat->Bool} {id:Nat},RR w s F->ok m s pg ev->m<90000->1<=id->id<4294967296->(∀i,i<n->¬pg i=id)->(∃x,Goer n pg ev x)->
  w.cell? ⟨pb,1,none⟩=some rv->pb<w.heap.size->¬F pb->Calls prog 107 #[.pointer (some ⟨pb,0,none⟩),.int .u32 id] w fun e w'=>
   (match P.victim s id with
    |none=>∃x:Int,e=.returned (.tuple #[.int .i64 x,.bool false])
    |some a=>e=.returned (.tuple #[.int .i64 a,.bool true]))∧Tld RR (P.aft s id) F w w'
 okMiss:∀{m:Nat} {s:τ} {pg:Nat->Nat} {ev:Nat->Bool} {id:Nat},ok m s pg ev->m<90000->1<=id->(∀i,i<n->¬pg i=id)->ok (m+1) (P.miss s id) pg ev
 okNew:∀{m:Nat} {s:τ} {pg:Nat->Nat} {ev:Nat->Bool} {id k:Nat},ok m s pg ev->m<90000->1<=id->id<4294967296->k<n->pg k=0->(∀i,i<n->¬pg i=id)->ok (m+1) (P.access s k id) (upd pg k id) (upd ev k false)
 okOld:∀{m:Nat} {s:τ} {pg:Nat->Nat} {ev:Nat->Bool} {id k:Nat},ok m s pg ev->m<90000->1<=id->k<n->pg k=id->ok (m+1) (P.access s k id) pg ev
 okSet:∀{m:Nat} {s:τ} {pg:Nat->Nat} {ev:Nat->Bool} {k:Nat} (b:Bool),ok m s pg ev->m<90000->k<n->¬pg k=0->ok (m+1) (P.set s k b) pg (upd ev k b)
 okRem:∀{m:Nat} {s:τ} {pg:Nat->Nat} {ev:Nat->Bool} {k:Nat},ok m s pg ev->m<90000->k<n->¬pg k=0->ok (m+1) (P.remove s k) (upd pg k 0) (upd ev k false)
 okYes:∀{m:Nat} {s:τ} {pg:Nat->Nat} {ev:Nat->Bool} {id x:Nat},ok m s pg ev->m<90000->1<=id->(∀i,i<n->¬pg i=id)->P.victim s id=some x->Goer n pg ev x->ok (m+1) (P.aft s id) (upd pg x 0) (upd ev x false)
 okNo:∀{m:Nat} {s:τ} {pg:Nat->Nat} {ev:Nat->Bool} {id:Nat},ok m s pg ev->m<90000->1<=id->(∀i,i<n->¬pg i=id)->(∀x,P.victim s id=some x->¬Goer n pg ev x)->ok (m+1) (P.aft s id) pg ev
end
section
open Go.Maps Go.Proofs.Tryz Go.RowKit
section
variable{w w':World}{p:PP}{f:Nat->FrS}{pl:Nat->Option Int}{E I:Nat->Bool}{sc m:Nat}
def HeldNo(n:Nat)(f:Nat->FrS)(pl:Nat->Option Int)(id e:Nat):Prop:=(pl id=none∧e=3)∨(pl id=some (-1)∧e=5)∨∃k:Nat,k<n∧pl id=some (k:Int)∧(f k).pins=0∧e=5
theorem allp_calls(H:MP w p f pl E I sc m):Calls prog 60 #[p.ptr] w fun e w'=>e=.returned (.bool (decide (cntB E p.n=0∧cntB I p.n=0)))∧w=w':=by
 have HE:=Hd (mp_lenE H);have HI:=Hd (mp_lenI H);have lb:=H.hd.lt;obtain⟨n,pb,db,fb,mb,rv,ev,eh,eL,iv,ih,iL⟩:=p;unfold PP.ptr
 dsimp only at*
 generalize cntB E n=a at*;generalize cntB I n=b at*;clear H;go_enter func60,ntmps60
 go_wp2_with fail
 refine HE.out.mono ?_;rintro e w1⟨rfl,rfl⟩;by_cases h:a=0
 .subst h
  go_wp2_with fail
  refine HI.out.mono ?_;rintro e w1⟨rfl,rfl⟩;go_wp2;go_returns;refine⟨?_,rfl⟩;by_cases h2:b=0<;>simp[h2]
 .have hne:((a:Int)==0)=false:=by simp<;>exact h
  go_wp2;go_returns;refine⟨?_,rfl⟩;simp[h]
end
end
end Go.Proofs.YtoenclhimbpfeaaGreatDoor
