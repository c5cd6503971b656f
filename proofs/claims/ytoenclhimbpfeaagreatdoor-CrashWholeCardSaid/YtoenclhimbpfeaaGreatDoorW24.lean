/- Part 24. -/
import Derived.Test.YtoenclhimbpfeaaGreatDoorW23
namespace Go.Proofs.YtoenclhimbpfeaaGreatDoor
set_option linter.all false
set_option maxHeartbeats 16000000
set_option maxRecDepth 100000
section
open Go.Maps Go.Proofs.Tryz Go.RowKit
section
variable{w w':World}{b n m:Nat}{A:AP}{r:Raw}{s:PrS}{i x f id:Nat}{y:En}
theorem Fp(h:PA n b A w s)(hk:PK n m s)(hi:s.L[i]?=some y)(hf:y.fr=(f:Int))(u:Bool)(hn:n<=65535):Calls prog 241 #[.pointer (some ⟨b,0,none⟩),.int .i64 f,.bool u] w λe w'=>e=.returned (.tuple #[])/\PA n b A w' {s with on:=upd s.on f u}/\Fr (FPr A b) w w':=by
 obtain⟨r,h1,h2⟩:=h;obtain⟨x,hx,ex⟩:=h2.rl.id hi;subst ex;have hxm:=List.mem_of_getElem? hx;obtain⟨q1,q2,_,_⟩:=hk.el _ (aB hi);have hfn:f<n:=by omega
 refine(Bb h1 hfn (h2.fm2 f hfn x hxm hf) (h1.lists.2.2.1 x hxm) u (λ_ q=>h2.size_pos hxm q) (by have:=h2.size_le;omega)).mono λe w' ⟨a1,a2,a3⟩=>⟨a1,⟨_,a2,h2.setV hk hx hf u⟩,a3⟩
theorem A6(h:PA n b A w s)(hk:PK n m s)(hi:s.L[i]?=some y)(hf:y.fr=(f:Int))(hn:n<=65535)(p:Int):Calls prog 237 #[.pointer (some ⟨b,0,none⟩),.int .i64 f,.int .u32 p] w λe w'=>e=.returned (.tuple #[])/\PA n b A w' (s.put i {y with ref:=true})/\Fr (FPr A b) w w':=by
 obtain⟨r,h1,h2⟩:=h;obtain⟨x,hx,ex⟩:=h2.rl.id hi;subst ex;have hxm:=List.mem_of_getElem? hx;obtain⟨q1,q2,_,_⟩:=hk.el _ (aB hi);have hfn:f<n:=by omega
 have hfm:=h2.fm2 f hfn x hxm hf;have hx2:=h1.lists.2.2.1 x hxm;have HI:=Hd (eO h1 hfn);have c1:w.cell? ⟨b,1,none⟩=some (.slice (some ⟨A.eb,0,none⟩) (2*n) (2*n)):=h1.c 1 (by omega);have c5:w.cell? ⟨b,5,none⟩=some (.slice (some ⟨A.fb,0,none⟩) n n):=h1.c 5 (by omega);have cf:=h1.cf hfn;rw[hfm]at cf;obtain⟨_,_,_,x3,_,_⟩:=h1.ce hx2;have fe:=λi=>h1.en.frozen i
 have lb:=h1.hd.lt;have le:=h1.en.lt;have hne:((x:Int)== -1)=false:=by simp
 have g0:(0:Int)<=(x:Int):=by omega
 have g1:(x:Int)<2*(n:Int):=by omega
 have g2:(0:Int)<=(f:Int):=by omega
 have g3:(f:Int)<(n:Int):=by omega
 have KEY:Hid (PA n b A (w.setCell ⟨A.eb,x*6+3,none⟩ (.bool true)) (s.put i {r.e x with ref:=true})/\Fr (FPr A b) w (w.setCell ⟨A.eb,x*6+3,none⟩ (.bool true))):=
  ⟨⟨_,h1.setEn (r':={r with e:=upd r.e x {r.e x with ref:=true}}) (sL r.e r.v x true) rfl,h2.put (y:={r.e x with ref:=true}) hx rfl rfl rfl⟩,(Fr.refl (FPr A b) w).setCell (p:=⟨A.eb,x*6+3,none⟩) (.inl (.inr (.inl rfl))) _⟩
 clear h1 h2 hk hi hf hx hxm q1 q2 hfm;go_enter func237,ntmps237
 go_wp2_with(go_at_call 245;refine HI.out.mono ?_;rintro e w'⟨rfl,rfl⟩)
 go_returns;exact⟨rfl,KEY.out⟩
theorem mG(h1:PC w b n A r)(h2:Rf n r s)(hl:s.L.length<2*n):∃x sp',r.sp=x::sp'/\(¬x∈r.ids)/\¬x∈sp':=by
 have h3:=h2.tot;have h4:=h2.len
 cases e:r.sp with
 |nil=>rw[e]at h3;simp at h3;omega
 |cons x sp'=>
  obtain⟨_,hnd,_,_,hd⟩:=h1.lists;refine⟨x,sp',rfl,λq=>hd x q (by rw[e];simp),λq=>?_⟩;rw[e]at hnd;exact(List.nodup_cons.1 hnd).1 q
theorem oE(h2:Rf n r s)(hfn:f<n)(hno:∀z∈s.L,¬z.fr=(f:Int)):r.fm f= -1:=by
 rcases h2.fm0 f hfn with q|⟨x,q⟩
 .exact q
 .obtain⟨a1,a2⟩:=h2.fm1 f hfn x q
  obtain⟨j,hj⟩:=List.getElem?_of_mem a1;exact(hno _ (List.mem_of_getElem? (h2.get hj)) a2).elim
theorem yz(h2:Rf n r s):r.ids=[]\/r.h 0∈r.ids:=by
 rcases h2.rl.hd with q|q
 .exact .inl q
 .exact .inr (List.mem_of_getElem? (q 0 (by omega)))
theorem yE(h:PA n b A w s)(hk:PK n n s)(hfn:f<n)(hno:∀z∈s.L,¬z.fr=(f:Int))(hong:∀z∈s.L,z.fr= -1->¬z.pg=id)(hon:s.on f=false)(hl:s.L.length<2*n)(hu:id<4294967296)(hn:n<=65535):
  Calls prog 237 #[.pointer (some ⟨b,0,none⟩),.int .i64 f,.int .u32 id] w λe w'=>e=.returned (.tuple #[])/\PA n b A w' (s.lay ⟨id,f,false,false,true⟩)/\Fr (FPr A b) w w':=by
 obtain⟨r,h1,h2⟩:=h;have hfm:=oE h2 hfn hno;obtain⟨x,sp',hs,hni,hns⟩:=mG h1 h2 hl;have HI:=Hd (eO h1 hfn);have c5:w.cell? ⟨b,5,none⟩=some (.slice (some ⟨A.fb,0,none⟩) n n):=h1.c 5 (by omega);have c6:w.cell? ⟨b,6,none⟩=some (.map (some A.mb)):=h1.c 6 (by omega);have cf:=h1.cf hfn;rw[hfm]at cf
 have hmp:r.mp (id:Int)=none:=by
  cases e:r.mp (id:Int)with
  |none=>rfl
  |some a=>
   obtain⟨a1,a2,a3⟩:=(h2.mp _ a).1 e;obtain⟨j,hj⟩:=List.getElem?_of_mem a1;have hL:=h2.get hj;have:=(hk.el _ (aB hL)).1;exact(hong _ (aB hL) (by omega) (by omega)).elim
 have hlk:=h1.mp.look_ok_run MVg (x:=(id:Nat)) (wfU hu);have hmpn:mpF r.mp (id:Int)=none:=by unfold mpF;rw[hmp];rfl
 rw[hmpn]at hlk;simp only[Option.getD_none,Option.isSome_none]at hlk;have HCO:=Hd (λW (g:Fr NoF w W)=>uV (h1.fr0 g) ⟨id,f,false,false,true⟩ hs (yz h2));have hr0:=h2.come (y:=⟨id,f,false,false,true⟩) hk hs hni hns rfl hfn hfm hon;have lb:=h1.hd.lt;have lf:=h1.fb.lt;have g2:(0:Int)<=(f:Int):=by omega
 have g3:(f:Int)<(n:Int):=by omega
 have HK:Hid (∀W,PC W b n A (r.come ⟨id,f,false,false,true⟩)->Fr (FPr A b) w W->PA n b A (W.setCell ⟨A.fb,f,none⟩ (.int .i64 (x:Nat))) (s.lay ⟨id,f,false,false,true⟩)/\Fr (FPr A b) w (W.setCell ⟨A.fb,f,none⟩ (.int .i64 (x:Nat)))):=λW hW fW=>by
  refine⟨⟨_,hW.setFm (i:=f) (x:Int),?_⟩,fW.setCell (p:=⟨A.fb,f,none⟩) (.inl (.inr (.inr (.inl rfl)))) _⟩
  have e1:(r.come ⟨id,f,false,false,true⟩).hot=r.hot:=by
   unfold Raw.come;exact(cW _).2.2.2.1
  have e2:(r.come ⟨id,f,false,false,true⟩).fm=r.fm:=by
   unfold Raw.come;exact(cW _).2.2.2.2.2.1
  rw[e2]
  have e3:({r.come ⟨id,f,false,false,true⟩with fm:=upd r.fm f (x:Int)}:Raw)={r.come ⟨id,f,false,false,true⟩with fm:=upd r.fm f (x:Int),hot:=r.hot+(if(⟨id,f,false,false,true⟩:En).hot=true then 1 else 0)}:=by
   rw[<-e1];rfl
  rw[e3];exact hr0
 unfold enV at HCO;clear h1 h2 hk hno hong hl hu hfm hmp hmpn hs hni hns hr0;generalize s.lay ⟨id,f,false,false,true⟩=s1 at*;go_enter func237,ntmps237
 go_wp2_with(go_at_call 245;refine HI.out.mono ?_;rintro e w'⟨rfl,rfl⟩)
 clear hlk cf
 go_region_with (go_at_call 246;(with_reducible refine(HCO.out _ (by repeat(first|exact Fr.refl NoF _|apply Fr.drew|apply Fr.drewN))).mono ?_);rintro e w1⟨rfl,h3,f3⟩;have d5:w1.cell? ⟨b,5,none⟩=some (.slice (some ⟨A.fb,0,none⟩) n n):=h3.c 5 (by omega);have fz:=h3.fb.frozen f;have cf3:=h3.cf hfn;have lf1:=h3.fb.lt;have lb1:=h3.hd.lt;have H3:=Hd h3;have F3:=Hd f3;clear h3 f3)
 all_goals
  have KEY:=Hd (HK.out _ H3.out (((Fr.refl (FPr A b) w).drew).trans F3.out (λi q=>.inl q)));clear HK H3 F3 HCO c5 c6;go_wp2;go_returns;exact⟨rfl,KEY.out⟩
theorem yK(h:PA n b A w s)(hk:PK n n s)(hfn:f<n)(hno:∀z∈s.L,¬z.fr=(f:Int))(hon:s.on f=false)(hl:s.L.length<2*n)(hu:id<4294967296)(hg:s.L[i]?=some y)(hg1:y.fr= -1)(hg2:y.pg=id)(h0:1<=id)(hn:n<=65535)
  (hpk:PK n n (({s with goal:=min (s.goal+1) (max (n-1) 1)}.drop i).lay ⟨id,f,true,false,false⟩)):
  Calls prog 237 #[.pointer (some ⟨b,0,none⟩),.int .i64 f,.int .u32 id] w λe w'=>e=.returned (.tuple #[])/\PA n b A w' ((({s with goal:=min (s.goal+1) (max (n-1) 1)}.drop i).lay ⟨id,f,true,false,false⟩).cool n)/\Fr (FPr A b) w w':=by
 obtain⟨r,h1,h2⟩:=h;have hfm:=oE h2 hfn hno;obtain⟨g,hgx,eg⟩:=h2.rl.id hg;subst eg;have hgm:=List.mem_of_getElem? hgx;have hg2x:=h1.lists.2.2.1 g hgm;have HI:=Hd (eO h1 hfn);have c5:w.cell? ⟨b,5,none⟩=some (.slice (some ⟨A.fb,0,none⟩) n n):=h1.c 5 (by omega);have c6:w.cell? ⟨b,6,none⟩=some (.map (some A.mb)):=h1.c 6 (by omega);have c7:w.cell? ⟨b,7,none⟩=some (.int .i64 (r.goal:Nat)):=h1.c 7 (by omega);have fb7:=h1.hd.frozen 7;have cf:=h1.cf hfn;rw[hfm]at cf;have hmp:r.mp (id:Int)=some g:=(h2.mp _ g).2 ⟨hgm,by omega,by omega⟩;have hlk:=h1.mp.look_ok_run MVg (x:=(id:Nat)) (wfU hu);have hmpn:mpF r.mp (id:Int)=some (.int .i64 (g:Nat)):=by unfold mpF;rw[hmp];rfl
 rw[hmpn]at hlk;simp only[Option.getD_some,Option.isSome_some]at hlk;have hn1:=hk.n1;have hgl:=hk.gl;have hgo:=h2.goal;have HGR:=Hd (λW (g:Fr NoF w W)=>jB (h1.fr0 g) hn1);have hht:=h2.hot_le;have hr1:Rf n {r with goal:=min (s.goal+1) (max (n-1) 1)} {s with goal:=min (s.goal+1) (max (n-1) 1)}:=h2.goals _;have hr2:=hr1.ghost (i:=i) (x:=g) hgx (by show(r.e g).fr<0;omega)
 have HDROP:Hid (∀W,PC W b n A {r with goal:=min (s.goal+1) (max (n-1) 1)}->Calls prog 247 #[.pointer (some ⟨b,0,none⟩),.int .i64 g] W λe w'=>e=.returned (.tuple #[])/\PC w' b n A (Raw.pdrop {r with goal:=min (s.goal+1) (max (n-1) 1)} g)/\Fr (FPr A b) W w'):=λW hW=>by
  obtain⟨_,q2,_,_⟩:=hk.el _ (aB hg);exact nR hW (x:=g) hgm (by show(r.e g).pg<_;exact q2.2) (λq=>h2.hot_pos hgm q) (by show r.hot<=_;omega)
 have hno2:∀z∈({s with goal:=min (s.goal+1) (max (n-1) 1)}.drop i).L,¬z.fr=(f:Int):=λz hz=>hno z (List.mem_of_mem_eraseIdx hz)
 have hfm2:=oE hr2 hfn hno2;have hl2:({s with goal:=min (s.goal+1) (max (n-1) 1)}.drop i).L.length<2*n:=by show(s.L.eraseIdx i).length<_;have:=List.length_eraseIdx_le (l:=s.L) (i:=i);omega
 have hk2:PK n n ({s with goal:=min (s.goal+1) (max (n-1) 1)}.drop i):=PK.drop (s:={s with goal:=min (s.goal+1) (max (n-1) 1)}) ⟨hk.hl,hk.uq,hk.el,hk.ng,by show 1<=min (s.goal+1) (max (n-1) 1)/\min (s.goal+1) (max (n-1) 1)<=_;omega,hk.n1⟩ hg;generalize hr3e:Raw.pdrop {r with goal:=min (s.goal+1) (max (n-1) 1)} g=r3 at*;have hon2:({s with goal:=min (s.goal+1) (max (n-1) 1)}.drop i).on f=false:=hon;generalize hs3e:({s with goal:=min (s.goal+1) (max (n-1) 1)}:PrS).drop i=s3 at*
 have HCOME:Hid (∀W,PC W b n A r3->∃x:Nat,(∀W',Fr NoF W W'->Calls prog 246 #[.pointer (some ⟨b,0,none⟩),enV ⟨id,f,true,false,false⟩ false] W' λe w'=>e=.returned (.int .i64 (x:Nat))/\PC w' b n A (r3.come ⟨id,f,true,false,false⟩)/\Fr (FPr A b) W' w')/\
   Rf n {r3.come ⟨id,f,true,false,false⟩with fm:=upd r3.fm f (x:Int),hot:=r3.hot+1} (s3.lay ⟨id,f,true,false,false⟩)):=λW hW=>by
  obtain⟨x,sp',hs,hni,hns⟩:=mG hW hr2 hl2;exact⟨x,λW' g=>uV (hW.fr0 g) _ hs (yz hr2),hr2.come (y:=⟨id,f,true,false,false⟩) hk2 hs hni hns rfl hfn hfm2 hon2⟩
 have hh3:=hr2.hot_le
 have HCE:Hid ((r3.come ⟨id,f,true,false,false⟩).hot=r3.hot/\(r3.come ⟨id,f,true,false,false⟩).fm=r3.fm):=by
  unfold Raw.come;exact⟨(cW _).2.2.2.1,(cW _).2.2.2.2.2.1⟩
 have HCOOL:Hid (∀W,PA n b A W (s3.lay ⟨id,f,true,false,false⟩)->Calls prog 244 #[.pointer (some ⟨b,0,none⟩)] W λe w'=>e=.returned (.tuple #[])/\PA n b A w' ((s3.lay ⟨id,f,true,false,false⟩).cool n)/\Fr (FPr A b) W w'):=λW hW=>vO hW hpk hn
 have HG7:Hid (∀(W:World) (z:Int),Fr NoF w W->z=((min (s.goal+1) (max (n-1) 1):Nat):Int)->PC (W.setCell ⟨b,7,none⟩ (.int .i64 z)) b n A {r with goal:=min (s.goal+1) (max (n-1) 1)}/\Fr (FPr A b) w (W.setCell ⟨b,7,none⟩ (.int .i64 z))):=λW z g e=>by
  subst e;exact⟨(h1.fr0 g).setHead (r':={r with goal:=min (s.goal+1) (max (n-1) 1)}) (kt _ _ _ _ _) rfl,(g.mono (λ_ q=>q.elim)).setCell (p:=⟨b,7,none⟩) (.inl (.inl rfl)) _⟩
 have lb:=h1.hd.lt;have g2:(0:Int)<=(f:Int):=by omega
 have g3:(f:Int)<(n:Int):=by omega
 have k1:(r.goal:Int)<=140000:=by omega
 have k2:IntKind.i64.wrap ((r.goal:Int)+1)=(r.goal:Int)+1:=wrap_small (by omega) (by omega);have k3:min (s.goal+1) (max (n-1) 1)=r.goal+1\/min (s.goal+1) (max (n-1) 1)=max (n-1) 1:=by omega
 have k4:min (s.goal+1) (max (n-1) 1)<=r.goal+1:=by omega
 have k5:min (s.goal+1) (max (n-1) 1)<=max (n-1) 1:=by omega
 have K345:=Hd (And.intro k3 (And.intro k4 k5));clear h1 h2 hk hno hon hl hu hg hg1 hg2 h0 hpk hfm hmp hmpn hr1 hr2 hno2 hfm2 hl2 hk2 hon2 hr3e hs3e hgm hgx hgl hgo hn1 k3 k4 k5;generalize min (s.goal+1) (max (n-1) 1)=gg at*;generalize max (n-1) 1=gm at*;generalize(s3.lay ⟨id,f,true,false,false⟩).cool n=fin at*;unfold enV at HCOME;go_enter func237,ntmps237
 go_wp2_with(go_at_call 245;refine HI.out.mono ?_;rintro e w'⟨rfl,rfl⟩)
 clear hlk cf HI
 go_region_with (go_at_call 53;(with_reducible refine(HGR.out _ (by repeat(first|exact Fr.refl NoF _|apply Fr.drew|apply Fr.drewN))).mono ?_);rintro e w1⟨rfl,rfl⟩)
 all_goals
  have e7:(if((gm:Nat):Int)<(r.goal:Int)+1 then(gm:Int)else(r.goal:Int)+1)=((gg:Nat):Int):=by
   obtain⟨a1,a2,a3⟩:=K345.out
   split<;>omega
  have e8:min ((r.goal:Int)+1) (gm:Int)=((gg:Nat):Int):=by
   obtain⟨a1,a2,a3⟩:=K345.out;omega
  first|rw[e7]|rw[e8]
  clear e8;obtain⟨hp,fp⟩:=HG7.out w _ (Fr.refl NoF w) rfl;have hp1:=hp.fr0 (Fr.refl NoF _).drew;have FP1:=Hd fp.drew;have HD1:=Hd (HDROP.out _ hp1);clear hp fp hp1 HG7 HDROP K345 HGR e7 k1 k2 c5 c6 c7 fb7 hht;generalize(w.setCell ⟨b,7,none⟩ (.int .i64 ((gg:Nat):Int))).drew=wd at*
  go_wp2_with fail
  refine HD1.out.mono ?_;clear HD1;rintro e w2⟨rfl,h3,f3⟩;obtain⟨x,hco,hrf⟩:=HCOME.out _ h3;have HCO:=Hd hco;have HRF:=Hd hrf;have F3:=Hd (FP1.out.trans f3 (λi q=>.inl q));have c5:w2.cell? ⟨b,5,none⟩=some (.slice (some ⟨A.fb,0,none⟩) n n):=h3.c 5 (by omega);have lb2:=h3.hd.lt;clear h3 f3 hco hrf HCOME
  go_wp2_with fail
  go_region_with (go_at_call 246;(with_reducible refine(HCO.out _ (by repeat(first|exact Fr.refl NoF _|apply Fr.drew|apply Fr.drewN))).mono ?_);rintro e w1⟨rfl,h3,f3⟩;have d5:w1.cell? ⟨b,5,none⟩=some (.slice (some ⟨A.fb,0,none⟩) n n):=h3.c 5 (by omega);have fz:=h3.fb.frozen f;have cf3:=h3.cf hfn;have lf1:=h3.fb.lt;have lb1:=h3.hd.lt;have H3:=Hd h3;have F4:=Hd f3;clear h3 f3)
  all_goals
   have h4:=H3.out.setFm (i:=f) (x:Int);have f4:Fr (FPr A b) w _:=(((F3.out.trans (G:=NoF) ((Fr.refl NoF w2).drew) (λ_ q=>q.elim)).trans F4.out (λi q=>.inl q))).setCell (p:=⟨A.fb,f,none⟩) (.inl (.inr (.inr (.inl rfl)))) (.int .i64 (x:Int));have hc2:=HCE.out.2;have hc1:=HCE.out.1;rw[hc2]at h4;have c8:=h4.c 8 (by omega);have c8':(w1.setCell ⟨A.fb,f,none⟩ (.int .i64 (x:Int))).cell? ⟨b,8,none⟩=some (.int .i64 (r3.hot:Nat)):=by rw[c8,<-hc1];rfl
   have fz8:=h4.hd.frozen 8;have lb8:=h4.hd.lt;have h5:=h4.setHead (i:=8) (u:=.int .i64 ((r3.hot+1:Nat):Int)) (r':={r3.come ⟨id,f,true,false,false⟩with fm:=upd r3.fm f (x:Int),hot:=r3.hot+1}) (j6 _ _ _ _ _) rfl;have f5:=f4.setCell (p:=⟨b,8,none⟩) (.inl (.inl rfl)) (.int .i64 ((r3.hot+1:Nat):Int));have e8:((r3.hot+1:Nat):Int)=(r3.hot:Int)+1:=by omega
   rw[e8]at h5 f5;have HC5:=Hd (HCOOL.out _ (⟨_,h5,HRF.out⟩:PA n b A _ (s3.lay ⟨id,f,true,false,false⟩)));have F5:=Hd f5;have h3b:(r3.hot:Int)<=140000:=by omega
   clear h4 f4 hc1 hc2 c8 h5 f5 e8 H3 F4 HCO HRF HCE HCOOL d5 fz cf3 lf1 lb1 c5 lb2 F3;generalize w1.setCell ⟨A.fb,f,none⟩ (.int .i64 (x:Int))=w5 at*
   go_wp2_with fail
   refine HC5.out.mono ?_;clear HC5;rintro e w6⟨rfl,h6,f6⟩;have KEY:=Hd (And.intro h6 (F5.out.trans f6 (λi q=>.inl q)));clear h6 f6;go_wp2;go_returns;exact⟨rfl,KEY.out⟩
end
theorem A5{N i:Nat}(hi:i<N):(madeCells #[Value.int .u32 0,.int .i64 0,.bool false,.bool false,.bool false,.bool false] N)[i]?=some (enF (λ_=>⟨0,0,false,false,false⟩) (λ_=>false) i):=by
 rw[fJ hi];have h6:i%6<6:=Nat.mod_lt _ (by omega)
 show some (#[Value.int .u32 0,.int .i64 0,.bool false,.bool false,.bool false,.bool false]:Array Value)[i%6]! =_
 unfold enF;generalize i%6=k at*
 match k,h6 with
 |0,_=>rfl
 |1,_=>rfl
 |2,_=>rfl
 |3,_=>rfl
 |4,_=>rfl
 |5,_=>rfl
theorem rT(k:Nat):cH [[],List.range k] 1 k false=[[],List.range (k+1)]:=by
 rw[dz (by simp)];rw[ah (l:=List.range k) (λq=>by have:=List.mem_range.1 q;omega),List.range_succ];rfl
theorem infoEntry:(prog.info? 281).map (λi=>(i.zero,i.size,i.bytes))=some (some (.agg #[.int .u32 0,.int .i64 0,.bool false,.bool false,.bool false,.bool false]),6,24):=by kernel_rfl
theorem Ft(N:Nat)(w:World)(hN:N<=200000):
  Calls prog 52 #[.int .i64 N] w λe w'=>∃rb eb FR,e=.returned (.tuple #[.agg #[.pointer (some ⟨rb,0,none⟩),.slice (some ⟨eb,0,none⟩) N N,.int .i64 0,.int .i64 0,.int .i64 0],.int .i64 0])/\
   RR w' rb N 2 [[],List.range N] FR/\Blk w' eb (N*6) (enF (λ_=>⟨0,0,false,false,false⟩) (λ_=>false))/\(∀i,FR i->w.heap.size<=i/\¬i=eb)/\w.heap.size<=eb/\Fr NoF w w':=by
 obtain⟨i0,hi0,hz0,hz1,hz2⟩:=info_parts infoEntry
 have mk1:∀w:World,(Instr.makeSlice 151 (.int .i64 (N:Int)) (.int .i64 (N:Int))).run prog w=
   .ok (.slice (some ⟨w.heap.size,0,none⟩) N N) (w.alloc (.cells (madeCells #[.int .u32 0,.int .i64 0,.bool false,.bool false,.bool false,.bool false] (N*6)) 281)):=by
  intro w;have:=run_make (P:=prog) w 151 281 i0 _ underlying151 hi0 hz0 .i64 .i64 (N:Int) (N:Int) (by omega) (Int.le_refl _) (by rw[hz2];omega) (by omega);rw[show((N:Int)).toNat=N from by omega,hz1]at this;exact this
 have HN:Hid (∀w:World,Calls prog 47 #[.int .i64 N,.int .i64 2] w λe w'=>∃b F,e=.returned (.tuple #[.pointer (some ⟨b,0,none⟩),.int .i64 0])/\RR w' b N 2 (List.replicate 2 []) F/\(∀i,F i->w.heap.size<=i)/\Fr NoF w w'):=λw=>gx N 2 w (by omega) (by omega) (by omega)
 clear hi0 hz0 hz1 hz2;go_enter func52,ntmps52
 go_wp2_with fail
 refine(HN.out _).mono ?_;clear HN;rintro e w1⟨gr,FG,rfl,hR,hFG,hf⟩;have hw0:¬FG w.heap.size:=λq=>by have:=hFG _ q;simp at this;omega
 have hgs:=hR.lt;have hsz:=hf.size;simp only[World.size_alloc]at hsz;have lw:w.heap.size<w1.heap.size:=by omega
 have HFG:=Hd hFG;have HF:=Hd hf;have HR:=Hd hR;have HW0:=Hd hw0;clear hR hFG hf hw0 hgs;go_wp2
 go_loopw [6,17] (λ_ i wr=>∃k:Nat,k<=N/\i=.int .i64 k/\RR wr gr N 2 [[],List.range k] FG/\Fr FG w1 wr) (λ_ i _=>N-(intOf i).toNat)
 case atStart=>exact⟨0,Nat.zero_le _,rfl,HR.out,Fr.refl _ _⟩
 case round=>
  obtain⟨k,hk,rfl,hR,hf⟩:=hrel;by_cases hlt:k<N
  .have HB:=aI hR 1 k (by omega) hlt
   rw[rT]at HB;have HB:=Hd HB;have HF2:=Hd hf;clear hR hf
   go_wp2_with fail
   refine HB.out.mono ?_;rintro e w2⟨rfl,hR2,f2⟩;have KEY:=Hd (And.intro hR2 (HF2.out.trans f2 (λ_ q=>.inl q)));clear hR2 f2 HB HF2;go_wp2
   go_roundw
   case rel=>exact⟨k+1,hlt,by go_num,KEY.out⟩
   case measure=>first|(simp[intOf];done)|(simp[intOf];omega)
  .obtain rfl:k=N:=by omega
   have hB0:Blk (w.alloc (.cells #[.pointer none,.slice none 0 0,.int .i64 0,.int .i64 0,.int .i64 0] 154)) w.heap.size 5 (λi=>(#[.pointer none,.slice none 0 0,.int .i64 0,.int .i64 0,.int .i64 0]:Array Value).getD i undef):=Blk.new _ _ _ 5 _ _ rfl rfl (λi hi=>by
    match i,hi with
    |0,_=>rfl
    |1,_=>rfl
    |2,_=>rfl
    |3,_=>rfl
    |4,_=>rfl)
   have hB:=(hB0.fr HF.out id).fr hf HW0.out;have r0:wr.cell? ⟨w.heap.size,0,none⟩=some (.pointer none):=hB.cell (i:=0) (by omega);have r1:wr.cell? ⟨w.heap.size,1,none⟩=some (.slice none 0 0):=hB.cell (i:=1) (by omega);have r2:wr.cell? ⟨w.heap.size,2,none⟩=some (.int .i64 0):=hB.cell (i:=2) (by omega);have r3:wr.cell? ⟨w.heap.size,3,none⟩=some (.int .i64 0):=hB.cell (i:=3) (by omega);have r4:wr.cell? ⟨w.heap.size,4,none⟩=some (.int .i64 0):=hB.cell (i:=4) (by omega);have rf:∀i,wr.frozen? ⟨w.heap.size,i,none⟩=false:=hB.frozen;have hs2:=hf.size;have lw2:w.heap.size<wr.heap.size:=by omega
   have HRR:=Hd hR;have HF2:=Hd hf;have HB:=Hd hB;clear hR hf hB hB0;have hG:Blk ((((((wr.setCell ⟨w.heap.size,0,none⟩ (.pointer (some ⟨gr,0,none⟩))).setCell ⟨w.heap.size,1,none⟩ (.slice (some ⟨wr.heap.size,0,none⟩) k k)).setCell ⟨w.heap.size,2,none⟩ (.int .i64 0)).setCell ⟨w.heap.size,3,none⟩ (.int .i64 0)).setCell ⟨w.heap.size,4,none⟩ (.int .i64 0)).alloc (.cells (madeCells #[.int .u32 0,.int .i64 0,.bool false,.bool false,.bool false,.bool false] (k*6)) 281)) w.heap.size 5 _:=(((((HB.out.set 0 _).set 1 _).set 2 _).set 3 _).set 4 _).alloc _;have r0':=(hG.cell (i:=0) (by omega)).trans (show _=some (.pointer (some ⟨gr,0,none⟩))from by simp[upd]);have r1':=(hG.cell (i:=1) (by omega)).trans (show _=some (.slice (some ⟨wr.heap.size,0,none⟩) k k)from by simp[upd]);have r2':=(hG.cell (i:=2) (by omega)).trans (show _=some (.int .i64 0)from by simp[upd]);have r3':=(hG.cell (i:=3) (by omega)).trans (show _=some (.int .i64 0)from by simp[upd]);have r4':=(hG.cell (i:=4) (by omega)).trans (show _=some (.int .i64 0)from by simp[upd])
   have KEY:Hid (RR ((((((wr.setCell ⟨w.heap.size,0,none⟩ (.pointer (some ⟨gr,0,none⟩))).setCell ⟨w.heap.size,1,none⟩ (.slice (some ⟨wr.heap.size,0,none⟩) k k)).setCell ⟨w.heap.size,2,none⟩ (.int .i64 0)).setCell ⟨w.heap.size,3,none⟩ (.int .i64 0)).setCell ⟨w.heap.size,4,none⟩ (.int .i64 0)).alloc (.cells (madeCells #[.int .u32 0,.int .i64 0,.bool false,.bool false,.bool false,.bool false] (k*6)) 281)) gr k 2 [[],List.range k] FG/\Blk ((((((wr.setCell ⟨w.heap.size,0,none⟩ (.pointer (some ⟨gr,0,none⟩))).setCell ⟨w.heap.size,1,none⟩ (.slice (some ⟨wr.heap.size,0,none⟩) k k)).setCell ⟨w.heap.size,2,none⟩ (.int .i64 0)).setCell ⟨w.heap.size,3,none⟩ (.int .i64 0)).setCell ⟨w.heap.size,4,none⟩ (.int .i64 0)).alloc (.cells (madeCells #[.int .u32 0,.int .i64 0,.bool false,.bool false,.bool false,.bool false] (k*6)) 281)) wr.heap.size (k*6) (enF (λ_=>⟨0,0,false,false,false⟩) (λ_=>false))/\(∀i,FG i->w.heap.size<=i/\¬i=wr.heap.size)/\w.heap.size<=wr.heap.size/\Fr NoF w ((((((wr.setCell ⟨w.heap.size,0,none⟩ (.pointer (some ⟨gr,0,none⟩))).setCell ⟨w.heap.size,1,none⟩ (.slice (some ⟨wr.heap.size,0,none⟩) k k)).setCell ⟨w.heap.size,2,none⟩ (.int .i64 0)).setCell ⟨w.heap.size,3,none⟩ (.int .i64 0)).setCell ⟨w.heap.size,4,none⟩ (.int .i64 0)).alloc (.cells (madeCells #[.int .u32 0,.int .i64 0,.bool false,.bool false,.bool false,.bool false] (k*6)) 281))):=by
    have hlt:=HRR.out.lt;have f5:Fr (λi=>i=w.heap.size) wr (((((wr.setCell ⟨w.heap.size,0,none⟩ (.pointer (some ⟨gr,0,none⟩))).setCell ⟨w.heap.size,1,none⟩ (.slice (some ⟨wr.heap.size,0,none⟩) k k)).setCell ⟨w.heap.size,2,none⟩ (.int .i64 0)).setCell ⟨w.heap.size,3,none⟩ (.int .i64 0)).setCell ⟨w.heap.size,4,none⟩ (.int .i64 0)):=(((((Fr.refl (λi=>i=w.heap.size) wr).setCell (p:=⟨w.heap.size,0,none⟩) (.inl rfl) _).setCell (p:=⟨w.heap.size,1,none⟩) (.inl rfl) _).setCell (p:=⟨w.heap.size,2,none⟩) (.inl rfl) _).setCell (p:=⟨w.heap.size,3,none⟩) (.inl rfl) _).setCell (p:=⟨w.heap.size,4,none⟩) (.inl rfl) _;have f6:=f5.alloc (.cells (madeCells #[.int .u32 0,.int .i64 0,.bool false,.bool false,.bool false,.bool false] (k*6)) 281);have hsz5:(((((wr.setCell ⟨w.heap.size,0,none⟩ (.pointer (some ⟨gr,0,none⟩))).setCell ⟨w.heap.size,1,none⟩ (.slice (some ⟨wr.heap.size,0,none⟩) k k)).setCell ⟨w.heap.size,2,none⟩ (.int .i64 0)).setCell ⟨w.heap.size,3,none⟩ (.int .i64 0)).setCell ⟨w.heap.size,4,none⟩ (.int .i64 0)).heap.size=wr.heap.size:=by simp
    have f0:Fr NoF w wr:=((((Fr.refl NoF w).alloc _).trans HF.out (λ_ q=>q.elim))).trans HF2.out (λi q=>.inr (by have:=HFG.out i q;simp at this;omega));refine⟨HRR.out.fr f6 (λi hi e=>HW0.out (e▸hi)),Blk.new _ _ _ _ _ _ hsz5.symm (by simp[size_madeCells]) (λi hi=>A5 hi),λi q=>⟨by have:=HFG.out i q;simp at this;omega,λe=>by have:=hlt i q;omega⟩,by omega,f0.trans f6 (λi e=>.inr (by omega))⟩
   clear hG;go_wp2;refine bodyPost_ret (v:=.tuple #[.agg #[.pointer (some ⟨gr,0,none⟩),.slice (some ⟨wr.heap.size,0,none⟩) k k,.int .i64 0,.int .i64 0,.int .i64 0],.int .i64 0]) (by simp only[results,Tryz.results52,go_sem];simp[go_sem,r0',r1',r2',r3',r4']) rfl ⟨gr,wr.heap.size,FG,rfl,KEY.out⟩
def raw0(n k g:Nat):Raw:=⟨[],List.range (2*n),λ_=>0,λ_=>⟨0,0,false,false,false⟩,λ_=>false,g,0,0,λi=>if i<k then-1 else 0,λ_=>none,0⟩
def pr0(n:Nat):PrS:=⟨[],λ_=>0,max (n-1) 1,λ_=>0,λ_=>false⟩
theorem xP(n k g:Nat):upd (raw0 n k g).fm k (-1)=(raw0 n (k+1) g).fm:=by
 funext j
 show upd (λi=>if i<k then(-1:Int)else 0) k (-1) j=if j<k+1 then(-1:Int)else 0
 by_cases e:j=k
 .subst e;rw[upd_same,if_pos (by omega)]
 .rw[aa _ _ e]
  by_cases q:j<k
  .rw[if_pos (show j<k+1 by omega)];exact if_pos q
  .rw[if_neg (show¬j<k+1 by omega)];exact if_neg q
theorem rf0(n:Nat):Rf n (raw0 n n (max (n-1) 1)) (pr0 n):=by
 refine⟨⟨rfl,List.nodup_nil,.inl rfl⟩,rfl,rfl,λx hx=>(by cases hx),rfl,λf hf x hx=>?_,λf hf x hx=>(by cases hx),λf hf=>.inl (if_pos hf),λp x=>⟨λq=>(by cases q),λq=>(by cases q.1)⟩,rfl,by simp[raw0]⟩;have hx:(if f<n then(-1:Int)else 0)=x:=hx;rw[if_pos hf]at hx;omega
theorem pk0{n:Nat}(h1:1<=n):PK n n (pr0 n)/\PM n (pr0 n):=
 ⟨⟨λj hj=>.inr ⟨rfl,rfl⟩,λi j x y hx=>by simp[pr0]at hx,λx hx=>(by cases hx),Nat.zero_le _,by show 1<=max (n-1) 1/\max (n-1) 1<=max (n-1) 1;omega,h1⟩,⟨λa b k=>(by obtain⟨x,hx,_⟩:=k;cases hx),λf hf k=>⟨rfl,rfl⟩⟩⟩
def CRP(b n:Nat)(w:World)(s:PrS)(F:Nat->Prop):Prop:=∃A,PA n b A w s/\PK n n s/\PM n s/\∀i,F i↔FPr A b i
theorem CRP.fr{b n:Nat}{w w':World}{s:PrS}{F G:Nat->Prop}(h:CRP b n w s F)(f:Fr G w w')(hG:∀i,F i->¬G i):CRP b n w' s F:=by
 obtain⟨A,⟨r,h1,h2⟩,h3,h4,h5⟩:=h;exact⟨A,⟨r,h1.fr f (λi q=>hG i ((h5 i).2 q)),h2⟩,h3,h4,h5⟩
theorem CRP.lt{b n:Nat}{w:World}{s:PrS}{F:Nat->Prop}(h:CRP b n w s F):∀i,F i->i<w.heap.size:=by
 obtain⟨A,⟨r,h1,h2⟩,h3,h4,h5⟩:=h;exact λi q=>h1.lt i ((h5 i).1 q)
theorem Fv(n:Int)(w:World)(h:n<1\/65535<n):
  Calls prog 30 #[.int .i64 n] w λe w'=>e=.returned (.tuple #[.pointer none,.int .i64 1])/\w=w':=by
 by_cases h1:n<1
 .clear h
  go_enter func30,ntmps30;go_wp2;go_returns;exact⟨rfl,rfl⟩
 .have h2:65535<n:=by omega
  clear h;go_enter func30,ntmps30;go_wp2;go_returns;exact⟨rfl,rfl⟩
theorem MpV.madeP(w:World):MpV prog 34 .u32 (.int .i64 0) (w.alloc (.map #[] 0)) w.heap.size 0 (mpF λ_=>none):=MpV.made prog 34 .u32 (.int .i64 0) w
theorem MpV.madeP'{mb:Nat}(w:World)(hm:mb=w.heap.size):MpV prog 34 .u32 (.int .i64 0) (w.alloc (.map #[] 0)) mb 0 (mpF λ_=>none):=hm▸MpV.madeP w
theorem pc0{n:Nat}{w w1 wz:World}{rb eb b fb mb:Nat}{FR:Nat->Prop}(hn:n<=65535)(hR:RR w1 rb (2*n) 2 [[],List.range (2*n)] FR)(hE:Blk w1 eb (2*n*6) (enF (λ_=>⟨0,0,false,false,false⟩) (λ_=>false)))(hFR:∀i,FR i->w.heap.size<=i/\¬i=eb)(heb:w.heap.size<=eb)(hs:w.heap.size<=w1.heap.size)
  (fz:Fr NoF w1 wz)(g1:wz.heap[fb]?=some (.cells (madeCells #[.int .i64 0] n) 3 (0,0)))(g2:MpV prog 34 .u32 (.int .i64 0) wz mb 0 (mpF λ_=>none))
  (g3:wz.heap[b]?=some (.cells #[.pointer (some ⟨rb,0,none⟩),.slice (some ⟨eb,0,none⟩) (2*n) (2*n),.int .i64 0,.int .i64 0,.int .i64 0,.slice (some ⟨fb,0,none⟩) n n,.map (some mb),.int .i64 0,.int .i64 0,.int .i64 0] 159 (0,0)))
  (d1:¬b=fb)(d2:¬b=mb)(d3:¬fb=mb)(l1:w1.heap.size<=b)(l2:w1.heap.size<=fb)(l3:w1.heap.size<=mb):∃A,PC wz b n A (raw0 n 0 0)/\∀i,FPr A b i->w.heap.size<=i:=by
 have hrl:=hR.lt;have hel:=hE.lt
 let A:AP:=⟨rb,eb,fb,mb,FR,λi=>open Classical in if i=b then 0 else if i=eb then 1 else if i=fb then 2 else if i=mb then 3 else 4⟩
 have hL:LP b A:=by
  refine⟨if_pos rfl,?_,?_,?_,λi q=>?_⟩
  .show(if eb=b then 0 else _)=1
   rw[if_neg (show¬eb=b by omega),if_pos rfl]
  .show(if fb=b then 0 else _)=2
   rw[if_neg (λe=>d1 e.symm),if_neg (show¬fb=eb by omega),if_pos rfl]
  .show(if mb=b then 0 else _)=3
   rw[if_neg (λe=>d2 e.symm),if_neg (show¬mb=eb by omega),if_neg (λe=>d3 e.symm),if_pos rfl]
  .have:=hrl i q
   have:=(hFR i q).2
   show(if i=b then 0 else _)=4
   rw[if_neg (show¬i=b by omega),if_neg this,if_neg (show¬i=fb by omega),if_neg (show¬i=mb by omega)]
 refine⟨A,⟨⟨_,_,g3,rfl,λi hi=>?_⟩,hR.fr fz (λ_ _ q=>q),hE.fr fz id,⟨_,_,g1,by simp[size_madeCells],λi hi=>?_⟩,g2,hL,hn⟩,λi q=>?_⟩
 .match i,hi with
  |0,_=>rfl
  |1,_=>rfl
  |2,_=>rfl
  |3,_=>rfl
  |4,_=>rfl
  |5,_=>rfl
  |6,_=>rfl
  |7,_=>rfl
  |8,_=>rfl
  |9,_=>rfl
 .rw[du hi,show(#[Value.int .i64 0]:Array Value).size=1 from rfl,Nat.mod_one];rfl
 .rcases q with e|e|e|e|q
  .rw[e];omega
  .rw[e];exact heb
  .rw[e];show w.heap.size<=fb;omega
  .rw[e];show w.heap.size<=mb;omega
  .exact(hFR i q).1
theorem sx(n:Nat)(w:World)(h1:1<=n)(hn:n<=65535):
  Calls prog 30 #[.int .i64 n] w λe w'=>∃b F,e=.returned (.tuple #[.pointer (some ⟨b,0,none⟩),.int .i64 0])/\CRP b n w' (pr0 n) F/\(∀i,F i->w.heap.size<=i)/\Fr NoF w w':=by
 have mk1:=mkN (z:=.int .i64 0) (b:=8) underlying157 (P:=prog) (by kernel_rfl) rfl n (by omega) (Nat.mul_one n);have HC0:=Ft (2*n) w (by omega);rw[show(((2*n:Nat)):Int)=2*(n:Int)from by omega]at HC0;have HC:=Hd HC0;have hmm:=@run_makeMap prog;clear HC0;go_enter func30,ntmps30
 go_wp2_with fail
 refine HC.out.mono ?_;clear HC;rintro e w1⟨rb,eb,FR,rfl,hR,hE,hFR,heb,hf1⟩;have HR:=Hd hR;have HE:=Hd hE;have HFR:=Hd (And.intro hFR heb);have HF1:=Hd hf1;clear hR hE hFR heb hf1
 go_wp2_with fail
 go_region
 all_goals
  refine wpw ?_;rintro wz hwz;have fz:Fr NoF w1 wz:=by rw[hwz];repeat(first|exact Fr.refl NoF _|apply Fr.drew|apply Fr.alloc)
  obtain⟨A,hpc,hAF⟩:∃A,PC wz (w1.heap.size+1+1+1) n A (raw0 n 0 0)/\∀i,FPr A (w1.heap.size+1+1+1) i->w.heap.size<=i:=by
   subst hwz
   first
    |exact pc0 (fb:=w1.heap.size+1) (mb:=w1.heap.size+1+1) hn HR.out HE.out HFR.out.1 HFR.out.2 HF1.out.size fz (aH _ _ _ _ (aH _ _ _ _ (heap_alloc_new _ _ _ (by simp)))) (by repeat(first|exact MpV.madeP' _ (by simp)|refine MpV.fr (G:=NoF) ?_ (by first|exact(Fr.refl NoF _).alloc _|exact(Fr.refl NoF _).drew) id)) (heap_alloc_new _ _ _ (by simp)) (by omega) (by omega) (by omega) (by omega) (by omega) (by omega)
    |exact pc0 (fb:=w1.heap.size+1+1) (mb:=w1.heap.size+1) hn HR.out HE.out HFR.out.1 HFR.out.2 HF1.out.size fz (aH _ _ _ _ (heap_alloc_new _ _ _ (by simp))) (by repeat(first|exact MpV.madeP' _ (by simp)|refine MpV.fr (G:=NoF) ?_ (by first|exact(Fr.refl NoF _).alloc _|exact(Fr.refl NoF _).drew) id)) (heap_alloc_new _ _ _ (by simp)) (by omega) (by omega) (by omega) (by omega) (by omega) (by omega)
  have H0:=Hd hpc;have F0:=Hd (HF1.out.trans fz (λ_ q=>q.elim));have HAF:=Hd hAF;clear hwz fz hpc hAF HR HE HFR HF1 hmm;have c5:wz.cell? ⟨w1.heap.size+1+1+1,5,none⟩=some (.slice (some ⟨A.fb,0,none⟩) n n):=H0.out.c 5 (by omega);have lbz:=H0.out.hd.lt;generalize w1.heap.size+1+1+1=b at*;go_wp2
  go_loopw [7,34] (λ_ i wr=>∃k:Nat,k<=n/\i=.int .i64 k/\PC wr b n A (raw0 n k 0)/\Fr (FPr A b) wz wr) (λ_ i _=>n-(intOf i).toNat)
  case atStart=>exact⟨0,Nat.zero_le _,rfl,H0.out,Fr.refl _ _⟩
  case round=>
   obtain⟨k,hk,rfl,hc,hf⟩:=hrel;clear c5 lbz;have d5:wr.cell? ⟨b,5,none⟩=some (.slice (some ⟨A.fb,0,none⟩) n n):=hc.c 5 (by omega);have lbr:=hc.hd.lt;have lfr:=hc.fb.lt;by_cases hlt:k<n
   .have cf:=hc.cf hlt
    have fz:=hc.fb.frozen k;have g0:(0:Int)<=(k:Int):=by omega
    have g1:(k:Int)<(n:Int):=by omega
    have h4:=hc.setFm (i:=k) (-1);rw[xP]at h4;have H4:Hid (PC (wr.setCell ⟨A.fb,k,none⟩ (.int .i64 (-1))) b n A (raw0 n (k+1) 0)/\Fr (FPr A b) wz (wr.setCell ⟨A.fb,k,none⟩ (.int .i64 (-1)))):=⟨h4,hf.setCell (p:=⟨A.fb,k,none⟩) (.inl (.inr (.inr (.inl rfl)))) _⟩;clear h4 hc hf;go_wp2
    go_roundw
    case rel=>exact⟨k+1,hlt,by go_num,H4.out⟩
    case measure=>first|(simp[intOf];done)|(simp[intOf];omega)
   .obtain rfl:k=n:=by omega
    have HG:=Hd (jB hc h1);have c7:wr.cell? ⟨b,7,none⟩=some (.int .i64 (0:Nat)):=hc.c 7 (by omega);have fz7:=hc.hd.frozen 7;have h5:=hc.setHead (i:=7) (u:=.int .i64 ((max (k-1) 1:Nat):Int)) (r':=raw0 k k (max (k-1) 1)) (kt _ _ _ _ _) rfl
    have KEY:Hid (CRP b k (wr.setCell ⟨b,7,none⟩ (.int .i64 ((max (k-1) 1:Nat):Int))) (pr0 k) (FPr A b)/\Fr NoF w (wr.setCell ⟨b,7,none⟩ (.int .i64 ((max (k-1) 1:Nat):Int)))):=
     ⟨⟨A,⟨_,h5,rf0 k⟩,(pk0 h1).1,(pk0 h1).2,λ_=>Iff.rfl⟩,(F0.out.trans hf (λi q=>.inr (HAF.out i q))).setCell (p:=⟨b,7,none⟩) (.inr (HAF.out _ (.inl rfl))) _⟩
    clear h5 hc hf;generalize max (k-1) 1=gg at*
    go_wp2_with(go_at_call 53;refine HG.out.mono ?_;rintro e w'⟨rfl,rfl⟩)
    go_returns;exact⟨b,FPr A b,rfl,KEY.out.1,HAF.out,KEY.out.2⟩
def Gj(n:Nat)(t:PrS)(c:Cl):Prop:=
 (c.kind=1->c.frame<n/\1<=c.page/\c.page<4294967296/\(t.pg c.frame=c.page\/t.pg c.frame=0/\∀f,f<n->¬t.pg f=c.page))/\
 (c.kind=2->c.frame<n/\¬t.pg c.frame=0)/\(c.kind=4->c.frame<n/\¬t.pg c.frame=0)
section
variable{w w':World}{b n m:Nat}{A:AP}{s:PrS}{i x f id:Nat}{y:En}{F:Nat->Prop}
theorem zb(h:PK n m s)(hm:PM n s)(hf:f<n)(hp:¬s.pg f=0)(u:Bool):PK n m {s with on:=upd s.on f u}/\PM n {s with on:=upd s.on f u}:=by
 refine⟨⟨h.hl,h.uq,h.el,h.ng,h.gl,h.n1⟩,⟨hm.pf,λg hg k=>?_⟩⟩;have h0:=hm.p0 g hg k;refine⟨h0.1,?_⟩
 show upd s.on f u g=false
 by_cases e:g=f
 .subst e;exact(hp h0.1).elim
 .rw[aa _ _ e];exact h0.2
theorem xK(h:CRP b n w s F)(hn:n<=65535)(ha:f<n)(h1:1<=id)(h2:id<4294967296)(hq:s.pg f=id\/s.pg f=0/\∀g,g<n->¬s.pg g=id):
  Calls prog 237 #[.pointer (some ⟨b,0,none⟩),.int .i64 f,.int .u32 id] w λe w'=>e=.returned (.tuple #[])/\CRP b n w' (s.access n f id) F/\Fr F w w':=by
 obtain⟨A,hA,hk,hm,hF⟩:=h;rcases hq with hq|⟨hq,hni⟩
 .obtain⟨k1,k2,k3,k4,i,x,e,hx,ef,ea⟩:=kB hk hm ha hq h1
  refine(A6 hA hk hx ef hn id).mono λe w' ⟨he,h',hf⟩=>⟨he,⟨A,?_,k1,k2,hF⟩,hf.mono (λi q=>(hF i).2 q)⟩
  rw[ea];exact h'.pgs _
 .obtain⟨k1,k2,k3,k4⟩:=lK hk hm ha hq h1 h2 hni
  have hof:=yJ hk hm hq;have hno:=iF hof;have hon:=(hm.p0 f ha (Be hk hm hq)).2;have hl:=zf hk hm ha hq
  cases eg:s.ofG id with
  |none=>
   refine(yE hA hk ha hno (pG eg) hon hl h2 hn).mono λe w' ⟨he,h',hf⟩=>⟨he,⟨A,?_,k1,k2,hF⟩,hf.mono (λi q=>(hF i).2 q)⟩
   have ea:s.access n f id={s with pg:=upd s.pg f id}.lay ⟨id,f,false,false,true⟩:=by unfold PrS.access;simp only[hof,eg]
   rw[ea]
   have eb:({s with pg:=upd s.pg f id}:PrS).lay ⟨id,f,false,false,true⟩={s.lay ⟨id,f,false,false,true⟩with pg:=upd s.pg f id}:=by
    unfold PrS.lay;split<;>rfl
   rw[eb];exact h'.pgs _
  |some i=>
   obtain⟨g,hg,g1,g2⟩:=qL eg;have ea:s.access n f id=(({s with pg:=upd s.pg f id,goal:=min (s.goal+1) (max (n-1) 1)}.drop i).lay ⟨id,f,true,false,false⟩).cool n:=by unfold PrS.access;simp only[hof,eg]
   have hA2:=hA.pgs (upd s.pg f id);have hk2:PK n n {s with pg:=upd s.pg f id}:=⟨hk.hl,hk.uq,hk.el,hk.ng,hk.gl,hk.n1⟩;have hpk0:PK n n {s with pg:=upd s.pg f id,goal:=min (s.goal+1) (max (n-1) 1)}:=⟨hk.hl,hk.uq,hk.el,hk.ng,by have:=hk.gl;show 1<=min (s.goal+1) (max (n-1) 1)/\min (s.goal+1) (max (n-1) 1)<=_;omega,hk.n1⟩;have hd:=hpk0.drop (i:=i) (x:=g) hg
   have hpk:PK n n (({s with pg:=upd s.pg f id,goal:=min (s.goal+1) (max (n-1) 1)}.drop i).lay ⟨id,f,true,false,false⟩):=by
    refine hd.lay ⟨⟨by show(-1:Int)<=(f:Int);omega,by show(f:Int)<n;omega⟩,⟨h1,h2⟩,λq=>by have q:(f:Int)<0:=q;omega,λq=>rfl⟩ (by show(0:Int)<=f;omega) (λy hy=>⟨λq=>?_,λq=>hno y (List.mem_of_mem_eraseIdx hy) q⟩);have hyL:y∈s.L:=List.mem_of_mem_eraseIdx hy;obtain⟨k,hkk⟩:=List.getElem?_of_mem hy;have hkk:(s.L.eraseIdx i)[k]?=some y:=hkk;rw[bc]at hkk;have q:y.pg=id:=q
    split at hkk
    .have:=hk.uq i k g y hg hkk (.inl (by omega));omega
    .have:=hk.uq i (k+1) g y hg hkk (.inl (by omega));omega
   refine(yK hA2 hk2 ha hno hon hl h2 hg g1 g2 h1 hn hpk).mono λe w' ⟨he,h',hf⟩=>⟨he,⟨A,?_,k1,k2,hF⟩,hf.mono (λi q=>(hF i).2 q)⟩
   rw[ea];exact h'
theorem ER(h:CRP b n w s F)(hn:n<=65535)(ha:f<n)(hp:¬s.pg f=0)(u:Bool):Calls prog 241 #[.pointer (some ⟨b,0,none⟩),.int .i64 f,.bool u] w λe w'=>e=.returned (.tuple #[])/\CRP b n w' {s with on:=upd s.on f u} F/\Fr F w w':=by
 obtain⟨A,hA,hk,hm,hF⟩:=h;obtain⟨i,x,_,hx,ef⟩:=kP hm ha hp;obtain⟨k1,k2⟩:=zb hk hm ha hp u;exact(Fp hA hk hx ef u hn).mono λe w' ⟨he,h',hf⟩=>⟨he,⟨A,h',k1,k2,hF⟩,hf.mono (λi q=>(hF i).2 q)⟩
theorem xD(h:CRP b n w s F)(hn:n<=65535)(ha:f<n)(hp:¬s.pg f=0):Calls prog 240 #[.pointer (some ⟨b,0,none⟩),.int .i64 f] w λe w'=>e=.returned (.tuple #[])/\CRP b n w' (s.rem f) F/\Fr F w w':=by
 obtain⟨A,hA,hk,hm,hF⟩:=h;obtain⟨i,x,e,hx,ef⟩:=kP hm ha hp;obtain⟨k1,k2,_,_⟩:=th hk hm ha hp;have er:s.rem f=(s.empty f).drop i:=by unfold PrS.rem;rw[e]
 refine(jh hA hk hx ef hn).mono λe w' ⟨he,h',hf⟩=>⟨he,⟨A,by rw[er];exact h',k1,k2,hF⟩,hf.mono (λi q=>(hF i).2 q)⟩
theorem oy(hk:PK n n s)(hm:PM n s)(hz:¬s.sizeN n=0):PK n n (iH (s.vic n))/\PM n (iH (s.vic n))/\jj (s.vic n)<n/\(¬s.pg (jj (s.vic n))=0)/\s.on (jj (s.vic n))=true/\(iH (s.vic n)).pg=upd s.pg (jj (s.vic n)) 0/\(iH (s.vic n)).on=upd s.on (jj (s.vic n)) false:=by
 have h:=og (n:=n) (4*s.L.length+4) hk hm;have e:s.vic n=vicL n (4*s.L.length+4) s:=rfl;rw[e];generalize vicL n (4*s.L.length+4) s=V at*;obtain⟨t,o⟩:=V;obtain⟨k1,k2,k3⟩:=h
 cases o with
 |some f=>
  obtain⟨p1,p2,p3,p4,p5⟩:=k3;exact⟨k1,k2,p1,p2,p3,p4,p5⟩
 |none=>
  have k3:Kept s t:=k3;have hz2:¬t.sizeN n=0:=by rw[nD k3];exact hz
  obtain⟨_,_,_,_,_,p1,p2,p3⟩:=iz k1 k2 hz2;obtain⟨r1,r2,r3,r4⟩:=th k1 k2 p1 p2;exact⟨r1,r2,p1,by rw[<-k3.pg];exact p2,by rw[<-k3.on];exact p3,by rw[<-k3.pg];exact r3,by rw[<-k3.on];exact r4⟩
theorem s9(s:PrS)(id:Nat):(polP n).victim s id=(if s.sizeN n=0 then none else some (jj (s.vic n)))/\(polP n).gone s id=iH (s.vic n):=by
 constructor
 .show(if s.sizeN n=0 then none else match s.vic n with|(_,some f)=>some f|(t,none)=>some t.first)=_
  split
  .rfl
  .unfold jj
   generalize s.vic n=V;obtain⟨t,o⟩:=V
   cases o<;>rfl
 .show(match s.vic n with|(t,some _)=>t|(t,none)=>t.rem t.first)=_
  unfold iH;generalize s.vic n=V;obtain⟨t,o⟩:=V
  cases o<;>rfl
theorem xu(h:CRP b n w s F)(hn:n<=65535)(hz:¬s.sizeN n=0)(p:Int):Calls prog 243 #[.pointer (some ⟨b,0,none⟩),.int .u32 p] w λe w'=>e=.returned (.tuple #[.int .i64 (jj (s.vic n):Nat),.bool true])/\CRP b n w' (iH (s.vic n)) F/\Fr F w w':=by
 obtain⟨A,hA,hk,hm,hF⟩:=h;obtain⟨k1,k2,_⟩:=oy hk hm hz;exact(lW hA hk hm hz hn p).mono λe w' ⟨he,h',hf⟩=>⟨he,⟨A,h',k1,k2,hF⟩,hf.mono (λi q=>(hF i).2 q)⟩
end
theorem Hm(b n:Nat)(hn:n<=65535):ya (yh n) (CRP b n) b (Gj n) 239 237 241 243 240 where
 fr:=λh f hd=>h.fr f hd
 lt:=λh=>h.lt
 miss:=by
  rintro w t F c h hp hk;exact(BN _ _).mono λe w' ⟨he,hw⟩=>⟨he,F,hw▸h,hw▸Fr.refl _ _,λi hi=>.inl hi⟩
 access:=by
  rintro w t F c h hp hk;obtain⟨a1,a2,a3,a4⟩:=hp.1 hk;exact(xK h hn a1 a2 a3 a4).mono λe w' ⟨he,h',hf⟩=>⟨he,F,h',hf,λi hi=>.inl hi⟩
 set:=by
  rintro w t F c h hp hk;obtain⟨a1,a2⟩:=hp.2.1 hk;exact(ER h hn a1 a2 c.on).mono λe w' ⟨he,h',hf⟩=>⟨he,F,h',hf,λi hi=>.inl hi⟩
 victimNo:=by
  rintro w t F c h hp hk hv;have hv:(polP n).victim t c.page=none:=hv;rw[(s9 t c.page).1]at hv
  have hz:t.sizeN n=0:=by
   by_cases q:t.sizeN n=0
   .exact q
   .rw[if_neg q]at hv;cases hv
  obtain⟨A,hA,hk',hm,hF⟩:=h;exact(oM hA hk' hm hz c.page).mono λe w' ⟨he,hw⟩=>⟨he,F,hw▸⟨A,hA,hk',hm,hF⟩,hw▸Fr.refl _ _,λi hi=>.inl hi⟩
 victimYes:=by
  rintro w t F c a h hp hk hv;have hv:(polP n).victim t c.page=some a:=hv;have hg:(yh n).gone t c.page=iH (t.vic n):=(s9 t c.page).2;rw[(s9 t c.page).1]at hv;by_cases q:t.sizeN n=0
  .rw[if_pos q]at hv;cases hv
  .rw[if_neg q]at hv
   simp only[Option.some.injEq]at hv;rw[hg,<-hv];exact(xu h hn q c.page).mono λe w' ⟨he,h',hf⟩=>⟨he,F,h',hf,λi hi=>.inl hi⟩
 remove:=by
  rintro w t F c h hp hk;obtain⟨a1,a2⟩:=hp.2.2 hk;exact(xD h hn a1 a2).mono λe w' ⟨he,h',hf⟩=>⟨he,F,h',hf,λi hi=>.inl hi⟩
end
end Go.Proofs.YtoenclhimbpfeaaGreatDoor
