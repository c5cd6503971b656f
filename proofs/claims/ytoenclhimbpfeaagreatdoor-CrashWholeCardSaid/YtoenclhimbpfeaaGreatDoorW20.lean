/- Part 20. -/
import Derived.Test.YtoenclhimbpfeaaGreatDoorW19
namespace Go.Proofs.YtoenclhimbpfeaaGreatDoor
set_option linter.all false
set_option maxHeartbeats 16000000
set_option maxRecDepth 100000
section
open Go.Maps Go.Proofs.Tryz Go.RowKit
section
variable{w w':World}{b n:Nat}{A:AP}{r:Raw}
theorem Fj(e:Nat->En)(v:Nat->Bool)(x:Nat)(y:En)(u:Bool):
  upd (upd (upd (upd (upd (upd (enF e v) (x*6) (.int .u32 (y.pg:Nat))) (x*6+1) (.int .i64 y.fr)) (x*6+2) (.bool y.hot)) (x*6+3) (.bool y.ref)) (x*6+4) (.bool y.test)) (x*6+5) (.bool u)=enF (upd e x y) (upd v x u):=by
 funext j
 by_cases q:j/6=x
 .have hj:j=x*6+j%6:=by omega
  have h6:j%6<6:=by omega
  generalize j%6=k at*;subst hj
  match k,h6 with
  |0,_=>
   change _=enF (upd e x y) (upd v x u) (x*6);rw[en0,upd_same];simp[upd]
  |1,_=>rw[en1,upd_same];simp[upd]
  |2,_=>rw[en2,upd_same];simp[upd]
  |3,_=>rw[en3,upd_same];simp[upd]
  |4,_=>rw[en4,upd_same];simp[upd]
  |5,_=>rw[en5,upd_same];simp[upd]
 .rw[aa _ _ (by omega),aa _ _ (by omega),aa _ _ (by omega),aa _ _ (by omega),aa _ _ (by omega),aa _ _ (by omega)]
  unfold enF;rw[aa _ _ q,aa _ _ q]
theorem PC.setE(h:PC w b n A r)(x:Nat)(y:En)(u:Bool):PC ((((((w.setCell ⟨A.eb,x*6,none⟩ (.int .u32 (y.pg:Nat))).setCell ⟨A.eb,x*6+1,none⟩ (.int .i64 y.fr)).setCell ⟨A.eb,x*6+2,none⟩ (.bool y.hot)).setCell ⟨A.eb,x*6+3,none⟩ (.bool y.ref)).setCell ⟨A.eb,x*6+4,none⟩ (.bool y.test)).setCell ⟨A.eb,x*6+5,none⟩ (.bool u)) b n A {r with e:=upd r.e x y,v:=upd r.v x u}:=by
 obtain⟨n1,n2,n3,n4,n5,n6,n7⟩:=h.lb.ne
 have f:Fr (λk=>k=A.eb) w ((((((w.setCell ⟨A.eb,x*6,none⟩ (.int .u32 (y.pg:Nat))).setCell ⟨A.eb,x*6+1,none⟩ (.int .i64 y.fr)).setCell ⟨A.eb,x*6+2,none⟩ (.bool y.hot)).setCell ⟨A.eb,x*6+3,none⟩ (.bool y.ref)).setCell ⟨A.eb,x*6+4,none⟩ (.bool y.test)).setCell ⟨A.eb,x*6+5,none⟩ (.bool u)):=by
  exact((((((Fr.refl (λk=>k=A.eb) w).setCell (p:=⟨A.eb,x*6,none⟩) (.inl rfl) _).setCell (p:=⟨A.eb,x*6+1,none⟩) (.inl rfl) _).setCell (p:=⟨A.eb,x*6+2,none⟩) (.inl rfl) _).setCell (p:=⟨A.eb,x*6+3,none⟩) (.inl rfl) _).setCell (p:=⟨A.eb,x*6+4,none⟩) (.inl rfl) _).setCell (p:=⟨A.eb,x*6+5,none⟩) (.inl rfl) _
 refine⟨h.hd.fr f (λq=>n1 q.symm),h.rr.fr f (λi hi=>(n7 i hi).2.1),?_,h.fb.fr f (λq=>n4 q.symm),h.mp.fr f (λq=>n5 q.symm),h.lb,h.hn⟩;rw[<-Fj];exact(((((h.en.set _ _).set _ _).set _ _).set _ _).set _ _).set _ _
theorem uV(h:PC w b n A r)(y:En){x:Nat}{sp':List Nat}(hs:r.sp=x::sp')(ho:r.ids=[]\/r.h 0∈r.ids):Calls prog 246 #[.pointer (some ⟨b,0,none⟩),enV y false] w λe w'=>e=.returned (.int .i64 (x:Nat))/\PC w' b n A (r.come y)/\Fr (FPr A b) w w':=by
 have c0:w.cell? ⟨b,0,none⟩=some (.pointer (some ⟨A.rb,0,none⟩)):=h.c 0 (by omega);obtain⟨_,_,_,hsl,hd⟩:=h.lists;have hx:x<2*n:=hsl x (by rw[hs];simp);have hni:¬x∈r.ids:=λq=>hd x q (by rw[hs];simp)
 have HF:=Hd (λW (g:Fr NoF w W)=>bi (h.rr.fr g (λ_ _ q=>q)) 1)
 have hh:ixI (bZ [r.ids,r.sp] 1).head?=(x:Int):=by
  show ixI r.sp.head?=_
  rw[hs];rfl
 rw[hh]at HF;have hco:r.come y=Raw.lay {r with e:=upd r.e x y,v:=upd r.v x false} x:=by unfold Raw.come;rw[hs];rfl
 rw[hco];have HLAY:Hid (∀W,PC W b n A {r with e:=upd r.e x y,v:=upd r.v x false}->Calls prog 256 #[.pointer (some ⟨b,0,none⟩),.int .i64 x] W λe w'=>e=.returned (.tuple #[])/\PC w' b n A (Raw.lay {r with e:=upd r.e x y,v:=upd r.v x false} x)/\Fr (FCk A b) W w'):=λW hW=>AK hW hx hni ho
 have H:=Hd h;have lw:b<w.heap.size:=h.hd.lt;have le:A.eb<w.heap.size:=h.en.lt;clear h hs hsl hd hni ho hco hh;unfold enV;generalize Raw.lay {r with e:=upd r.e x y,v:=upd r.v x false} x=rl at*;obtain⟨ypg,yfr,yhot,yref,ytest⟩:=y;simp only;have hx0:(0:Int)<=(x:Int):=by omega
 have hx1:(x:Int)<2*(n:Int):=by omega
 go_enter func246,ntmps246
 go_upto_region 1 with fail
 have fA:Fr NoF w (w.alloc (.cells #[.int .u32 (ypg:Nat),.int .i64 yfr,.bool yhot,.bool yref,.bool ytest,.bool false] 281)):=(Fr.refl NoF w).alloc _
 have HA:Hid (Blk (w.alloc (.cells #[.int .u32 (ypg:Nat),.int .i64 yfr,.bool yhot,.bool yref,.bool ytest,.bool false] 281)) w.heap.size 6 (λi=>#[Value.int .u32 (ypg:Nat),.int .i64 yfr,.bool yhot,.bool yref,.bool ytest,.bool false].getD i undef)):=Blk.new _ _ _ 6 _ _ rfl rfl (λi hi=>by
  match i,hi with
  |0,_=>rfl
  |1,_=>rfl
  |2,_=>rfl
  |3,_=>rfl
  |4,_=>rfl
  |5,_=>rfl)
 have FA:=Hd fA;clear fA c0;generalize w.alloc (.cells #[.int .u32 (ypg:Nat),.int .i64 yfr,.bool yhot,.bool yref,.bool ytest,.bool false] 281)=wA at*;have c0:wA.cell? ⟨b,0,none⟩=some (.pointer (some ⟨A.rb,0,none⟩)):=(H.out.fr0 FA.out).c 0 (by omega)
 go_wp2_with fail
 refine(HF.out _ FA.out).mono ?_;clear HF;rintro e w1⟨rfl,d,rfl⟩;have h1:PC (wA.drewN d) b n A r:=(H.out.fr0 FA.out).fr0 ((Fr.refl NoF wA).drewN d);have b1:Blk (wA.drewN d) w.heap.size 6 _:=HA.out.drewN d;have F1:=Hd (FA.out.trans ((Fr.refl NoF wA).drewN d) (λ_ q=>q.elim));clear H HA FA c0;generalize wA.drewN d=w2 at*;have H1:=Hd h1;have e1:w2.cell? ⟨b,1,none⟩=some (.slice (some ⟨A.eb,0,none⟩) (2*n) (2*n)):=h1.c 1 (by omega);have fz:=λi=>h1.en.frozen i
 obtain⟨x0,x1,x2,x3,x4,x5⟩:=h1.ce hx;have g0:=b1.cell (i:=0) (by omega);have g1:=b1.cell (i:=1) (by omega);have g2:=b1.cell (i:=2) (by omega);have g3:=b1.cell (i:=3) (by omega);have g4:=b1.cell (i:=4) (by omega);have g5:=b1.cell (i:=5) (by omega);have lw2:=h1.hd.lt;have le2:=h1.en.lt;have lb2:=b1.lt;simp only[Array.getD,List.getElem_toArray,List.getElem_cons_zero,List.getElem_cons_succ]at g0 g1 g2 g3 g4 g5;clear h1 b1
 have HW:Hid (∀W,Fr NoF w2 W->PC ((((((W.setCell ⟨A.eb,x*6,none⟩ (.int .u32 (ypg:Nat))).setCell ⟨A.eb,x*6+1,none⟩ (.int .i64 yfr)).setCell ⟨A.eb,x*6+2,none⟩ (.bool yhot)).setCell ⟨A.eb,x*6+3,none⟩ (.bool yref)).setCell ⟨A.eb,x*6+4,none⟩ (.bool ytest)).setCell ⟨A.eb,x*6+5,none⟩ (.bool false)) b n A {r with e:=upd r.e x ⟨ypg,yfr,yhot,yref,ytest⟩,v:=upd r.v x false}/\
   Fr (FPr A b) w ((((((W.setCell ⟨A.eb,x*6,none⟩ (.int .u32 (ypg:Nat))).setCell ⟨A.eb,x*6+1,none⟩ (.int .i64 yfr)).setCell ⟨A.eb,x*6+2,none⟩ (.bool yhot)).setCell ⟨A.eb,x*6+3,none⟩ (.bool yref)).setCell ⟨A.eb,x*6+4,none⟩ (.bool ytest)).setCell ⟨A.eb,x*6+5,none⟩ (.bool false))):=λW g=>
  ⟨(H1.out.fr0 g).setE x ⟨ypg,yfr,yhot,yref,ytest⟩ false,(((((((F1.out.mono (λ_ q=>q.elim)).trans g (λ_ q=>q.elim)).setCell (p:=⟨A.eb,x*6,none⟩) (.inl (.inr (.inl rfl))) _).setCell (p:=⟨A.eb,x*6+1,none⟩) (.inl (.inr (.inl rfl))) _).setCell (p:=⟨A.eb,x*6+2,none⟩) (.inl (.inr (.inl rfl))) _).setCell (p:=⟨A.eb,x*6+3,none⟩) (.inl (.inr (.inl rfl))) _).setCell (p:=⟨A.eb,x*6+4,none⟩) (.inl (.inr (.inl rfl))) _).setCell (p:=⟨A.eb,x*6+5,none⟩) (.inl (.inr (.inl rfl))) _⟩
 clear H1 F1
 go_wp2_with fail
 go_region_with (fail)
 all_goals
  obtain⟨hp0,fp0⟩:=HW.out w2 (Fr.refl NoF w2);have hp:=hp0.fr0 (Fr.refl NoF _).drew;have fp:=fp0.drew;clear hp0 fp0;have HP:=Hd (HLAY.out _ hp);have FQ:=Hd fp;clear hp fp HW HLAY e1 fz x0 x1 x2 x3 x4 x5 g0 g1 g2 g3 g4 g5
  go_wp2_with fail
  refine HP.out.mono ?_;clear HP;rintro e w3⟨rfl,h3,f3⟩;have H3:=Hd (And.intro h3 (FQ.out.trans f3 (λi q=>.inl (q.elim .inl (λq=>.inr (.inr (.inr (.inr q))))))));clear h3 f3;go_wp2;go_returns;exact⟨rfl,H3.out⟩
end
section
variable{w w':World}{b n:Nat}{A:AP}{r:Raw}
theorem eO(h:PC w b n A r){f:Nat}(hf:f<n):Calls prog 245 #[.pointer (some ⟨b,0,none⟩),.int .i64 f] w λe w'=>e=.returned (.bool true)/\w=w':=by
 have c5:w.cell? ⟨b,5,none⟩=some (.slice (some ⟨A.fb,0,none⟩) n n):=h.c 5 (by omega);have hd:decide ((f:Int)<(n:Int))=true:=by simp;omega
 have hd2:decide (f<n)=true:=by simp;omega
 clear h;go_enter func245,ntmps245;go_wp2;go_returns;exact⟨rfl,rfl⟩
theorem zj(h:PC w b n A r){f:Nat}(hf:f<n)(x:Nat)(hx:r.fm f=x):Calls prog 248 #[.pointer (some ⟨b,0,none⟩),.int .i64 f] w λe w'=>e=.returned (.bool true)/\w=w':=by
 have c5:w.cell? ⟨b,5,none⟩=some (.slice (some ⟨A.fb,0,none⟩) n n):=h.c 5 (by omega);have cf:=h.cf hf;rw[hx]at cf;have HI:=Hd (eO h hf);have hne:((x:Int)== -1)=false:=by simp
 have h0:(0:Int)<=(f:Int):=by omega
 have h1:(f:Int)<(n:Int):=by omega
 clear h hx;go_enter func248,ntmps248
 go_wp2_with(go_at_call 245;refine HI.out.mono ?_;rintro e w'⟨rfl,rfl⟩)
 go_returns;exact⟨rfl,rfl⟩
theorem jB(h:PC w b n A r)(h1:1<=n):Calls prog 53 #[.pointer (some ⟨b,0,none⟩)] w λe w'=>e=.returned (.int .i64 ((max (n-1) 1:Nat):Int))/\w=w':=by
 have c5:w.cell? ⟨b,5,none⟩=some (.slice (some ⟨A.fb,0,none⟩) n n):=h.c 5 (by omega);have hn:=h.hn;clear h;go_enter func53,ntmps53;go_wp2
 all_goals go_returns
 all_goals exact⟨congrArg (λz=>Ending.returned (.int .i64 z)) (by omega),rfl⟩
theorem uy(h:PC w b n A r):Calls prog 242 #[.pointer (some ⟨b,0,none⟩)] w λe w'=>e=.returned (.int .i64 (r.size:Nat))/\w=w':=by
 have c9:w.cell? ⟨b,9,none⟩=some (.int .i64 (r.size:Nat)):=h.c 9 (by omega);clear h;go_enter func242,ntmps242;go_wp2;go_returns;exact⟨rfl,rfl⟩
theorem BN(a:Option Addr)(p:Int):Calls prog 239 #[.pointer a,.int .u32 p] w λe w'=>e=.returned (.tuple #[])/\w=w':=by
 go_enter func239,ntmps239;go_wp2;go_returns;exact⟨rfl,rfl⟩
def Raw.setV(r:Raw)(x:Nat)(u:Bool):Raw:=if r.v x=u then r else{r with v:=upd r.v x u,size:=if u=true then r.size+1 else r.size-1}
theorem PC.setV(h:PC w b n A r){x z:Nat}(u:Bool):PC ((w.setCell ⟨A.eb,x*6+5,none⟩ (.bool u)).setCell ⟨b,9,none⟩ (.int .i64 (z:Nat))) b n A {r with v:=upd r.v x u,size:=z}:=by
 have h1:=h.setEn (r':={r with v:=upd r.v x u}) (GO r.e r.v x u) rfl;exact h1.setHead (r':={r with v:=upd r.v x u,size:=z}) (zR _ _ _ _ _) rfl
theorem Bb(h:PC w b n A r){f:Nat}(hf:f<n){x:Nat}(hx:r.fm f=x)(hx2:x<2*n)(u:Bool)(hz:u=false->r.v x=true->1<=r.size)(hz2:r.size<=140000):
  Calls prog 241 #[.pointer (some ⟨b,0,none⟩),.int .i64 f,.bool u] w λe w'=>e=.returned (.tuple #[])/\PC w' b n A (r.setV x u)/\Fr (FPr A b) w w':=by
 have HH:=Hd (zj h hf x hx);have c1:w.cell? ⟨b,1,none⟩=some (.slice (some ⟨A.eb,0,none⟩) (2*n) (2*n)):=h.c 1 (by omega);have c5:w.cell? ⟨b,5,none⟩=some (.slice (some ⟨A.fb,0,none⟩) n n):=h.c 5 (by omega);have c9:w.cell? ⟨b,9,none⟩=some (.int .i64 (r.size:Nat)):=h.c 9 (by omega);have cf:=h.cf hf;rw[hx]at cf;obtain⟨_,_,_,_,_,x5⟩:=h.ce hx2;have fe:=λi=>h.en.frozen i
 have fb9:=h.hd.frozen 9;have lb:=h.hd.lt;have le:=h.en.lt;obtain⟨n1,_,_,_,_,_,_⟩:=h.lb.ne;have n1':¬b=A.eb:=λe=>n1 e.symm
 have h0:(0:Int)<=(f:Int):=by omega
 have h1:(f:Int)<(n:Int):=by omega
 have g0:(0:Int)<=(x:Int):=by omega
 have g1:(x:Int)<2*(n:Int):=by omega
 have H:=Hd h
 have HK:Hid (∀d z:Nat,PC (((w.drewN d).setCell ⟨A.eb,x*6+5,none⟩ (.bool u)).setCell ⟨b,9,none⟩ (.int .i64 (z:Nat))) b n A {r with v:=upd r.v x u,size:=z}/\Fr (FPr A b) w (((w.drewN d).setCell ⟨A.eb,x*6+5,none⟩ (.bool u)).setCell ⟨b,9,none⟩ (.int .i64 (z:Nat)))):=λd z=>
  ⟨(h.fr0 ((Fr.refl NoF w).drewN d)).setV u,(((Fr.refl (FPr A b) w).drewN d).setCell (p:=⟨A.eb,x*6+5,none⟩) (.inl (.inr (.inl rfl))) _).setCell (p:=⟨b,9,none⟩) (.inl (.inl rfl)) _⟩
 have HX:=Hd hx;clear h hx;unfold Raw.setV;generalize hv:r.v x=v0 at*
 cases v0<;>cases u
 .rw[if_pos rfl]
  have HV:=Hd hv;clear hv;go_enter func241,ntmps241
  go_wp2_with(go_at_call 248;refine HH.out.mono ?_;rintro e w'⟨rfl,rfl⟩)
  go_quiet (fail)
  go_wp2;go_returns;exact⟨rfl,H.out.fr0 (by repeat(first|exact Fr.refl NoF _|apply Fr.drew|apply Fr.drewN)),by repeat(first|exact Fr.refl _ _|apply Fr.drew|apply Fr.drewN)⟩
 .rw[if_neg (by simp),if_pos rfl]
  have HV:=Hd hv;clear hv;go_enter func241,ntmps241
  go_wp2_with(go_at_call 248;refine HH.out.mono ?_;rintro e w'⟨rfl,rfl⟩)
  go_quiet (fail)
  go_wp2;go_returns;exact⟨rfl,HK.out _ (r.size+1)⟩
 .rw[if_neg (by simp),if_neg (by simp)]
  have hz1:1<=r.size:=hz rfl rfl;have hz3:1<=(r.size:Int):=by omega
  clear hz;have HV:=Hd hv;clear hv;go_enter func241,ntmps241
  go_wp2_with(go_at_call 248;refine HH.out.mono ?_;rintro e w'⟨rfl,rfl⟩)
  go_quiet (fail)
  go_wp2;go_returns;have e1:((r.size:Int)-1)=((r.size-1:Nat):Int):=by omega
  rw[e1];exact⟨rfl,HK.out _ (r.size-1)⟩
 .rw[if_pos rfl]
  have HV:=Hd hv;clear hv;go_enter func241,ntmps241
  go_wp2_with(go_at_call 248;refine HH.out.mono ?_;rintro e w'⟨rfl,rfl⟩)
  go_quiet (fail)
  go_wp2;go_returns;exact⟨rfl,H.out.fr0 (by repeat(first|exact Fr.refl NoF _|apply Fr.drew|apply Fr.drewN)),by repeat(first|exact Fr.refl _ _|apply Fr.drew|apply Fr.drewN)⟩
end
def Raw.empty(r:Raw)(f x:Nat):Raw:={r.setV x false with e:=upd r.e x {r.e x with fr:= -1},fm:=upd r.fm f (-1)}
def Raw.cold(r:Raw)(x:Nat):Raw:={r with hot:=if(r.e x).hot=true then r.hot-1 else r.hot}
def Raw.forget(r:Raw)(x:Nat):Raw:=
 if(r.mp ((r.e x).pg:Nat)).getD 0=x then{r with mp:=updP r.mp (r.e x).pg none,mc:=if(mpF r.mp ((r.e x).pg:Nat)).isSome then r.mc-1 else r.mc}else r
def Raw.pdrop(r:Raw)(x:Nat):Raw:=((r.cold x).forget x).drop x
section
variable{w w':World}{b n:Nat}{A:AP}{r:Raw}
theorem hQ(x:Nat)(u:Bool):(r.setV x u).e=r.e/\(r.setV x u).fm=r.fm/\(r.setV x u).ids=r.ids/\(r.setV x u).h=r.h/\(r.setV x u).mp=r.mp:=by unfold Raw.setV;split<;>exact⟨rfl,rfl,rfl,rfl,rfl⟩
theorem qU(h:PC w b n A r){f:Nat}(hf:f<n){x:Nat}(hx:r.fm f=x)(hx2:x<2*n)(hz:r.v x=true->1<=r.size)(hz2:r.size<=140000):
  Calls prog 249 #[.pointer (some ⟨b,0,none⟩),.int .i64 f] w λe w'=>e=.returned (.tuple #[])/\PC w' b n A (r.empty f x)/\Fr (FPr A b) w w':=by
 have HS:=Hd (Bb h hf hx hx2 false (λ_=>hz) hz2);obtain⟨se,sf,_,_,_⟩:=hQ (r:=r) x false;have h0:(0:Int)<=(f:Int):=by omega
 have h1:(f:Int)<(n:Int):=by omega
 have g0:(0:Int)<=(x:Int):=by omega
 have g1:(x:Int)<2*(n:Int):=by omega
 have HX:Hid ((r.setV x false).fm f=x):=by unfold Hid;rw[sf];exact hx
 have HE:Hid (r.empty f x={r.setV x false with e:=upd (r.setV x false).e x {(r.setV x false).e x with fr:= -1},fm:=upd (r.setV x false).fm f (-1)}):=by unfold Hid Raw.empty;rw[se,sf]
 clear h hx hz se sf;rw[HE.out];generalize r.setV x false=q at*;go_enter func249,ntmps249
 go_wp2_with fail
 refine HS.out.mono ?_;clear HS;rintro e w1⟨rfl,h1',f1⟩;have c1:w1.cell? ⟨b,1,none⟩=some (.slice (some ⟨A.eb,0,none⟩) (2*n) (2*n)):=h1'.c 1 (by omega);have c5:w1.cell? ⟨b,5,none⟩=some (.slice (some ⟨A.fb,0,none⟩) n n):=h1'.c 5 (by omega);have cf:=h1'.cf hf;rw[HX.out]at cf;obtain⟨_,x1,_,_,_,_⟩:=h1'.ce hx2;have fe:=λi=>h1'.en.frozen i
 have ff:=λi=>h1'.fb.frozen i
 have lb:=h1'.hd.lt;have le:=h1'.en.lt;have lf:=h1'.fb.lt;obtain⟨n1,n2,_,n4,_,_,_⟩:=h1'.lb.ne;have n1':¬b=A.eb:=λe=>n1 e.symm
 have n4':¬A.fb=A.eb:=λe=>n4 e.symm
 have HK:Hid (PC ((w1.setCell ⟨A.eb,x*6+1,none⟩ (.int .i64 (-1))).setCell ⟨A.fb,f,none⟩ (.int .i64 (-1))) b n A {q with e:=upd q.e x {q.e x with fr:= -1},fm:=upd q.fm f (-1)}/\Fr (FPr A b) w ((w1.setCell ⟨A.eb,x*6+1,none⟩ (.int .i64 (-1))).setCell ⟨A.fb,f,none⟩ (.int .i64 (-1)))):=by
  have a1:=h1'.setEn (r':={q with e:=upd q.e x {q.e x with fr:= -1}}) (Gr q.e q.v x (-1)) rfl;exact⟨a1.setFm (i:=f) (-1),(f1.setCell (p:=⟨A.eb,x*6+1,none⟩) (.inl (.inr (.inl rfl))) _).setCell (p:=⟨A.fb,f,none⟩) (.inl (.inr (.inr (.inl rfl)))) _⟩
 clear h1' f1 HX
 go_wp2_with fail
 go_region_with (fail)
 all_goals go_wp2
 all_goals go_returns
 all_goals exact⟨rfl,HK.out.1.fr0 (Fr.refl NoF _).drew,HK.out.2.drew⟩
theorem PC.setMp(h:PC w b n A r){c:Nat}{m:Int->Option Nat}(hm:MpV prog 34 .u32 (.int .i64 0) w' A.mb c (mpF m))(f:Fr (λi=>i=A.mb) w w'):PC w' b n A {r with mp:=m,mc:=c}:=by
 obtain⟨n1,n2,n3,n4,n5,n6,n7⟩:=h.lb.ne;exact⟨h.hd.fr f (λq=>n3 q.symm),h.rr.fr f (λi hi=>(n7 i hi).2.2.2),h.en.fr f n5,h.fb.fr f n6,hm,h.lb,h.hn⟩
theorem wfU{x:Nat}(h:x<4294967296):(Lit.int .u32 (x:Int)).wf=true:=WalkArith.wf_u32 ⟨by omega,by omega⟩
theorem nR(h:PC w b n A r){x:Nat}(hx:x∈r.ids)(hu:(r.e x).pg<4294967296)(hh:(r.e x).hot=true->1<=r.hot)(hh2:r.hot<=140000):
  Calls prog 247 #[.pointer (some ⟨b,0,none⟩),.int .i64 x] w λe w'=>e=.returned (.tuple #[])/\PC w' b n A (r.pdrop x)/\Fr (FPr A b) w w':=by
 have hx2:x<2*n:=h.lists.2.2.1 x hx;have c1:w.cell? ⟨b,1,none⟩=some (.slice (some ⟨A.eb,0,none⟩) (2*n) (2*n)):=h.c 1 (by omega);obtain⟨x0,x1,x2,x3,x4,x5⟩:=h.ce hx2;have g0:(0:Int)<=(x:Int):=by omega
 have g1:(x:Int)<2*(n:Int):=by omega
 have hwf:=Hd (wfU hu);have lb:=h.hd.lt;have le:=h.en.lt;have H:=Hd h;have HX:=Hd hx;obtain⟨lv,hlv⟩:∃lv:Nat,(r.mp ((r.e x).pg:Nat)).getD 0=lv:=⟨_,rfl⟩
 have HLV:Hid ((mpF r.mp ((r.e x).pg:Nat)).getD (.int .i64 0)=.int .i64 (lv:Nat)):=by
  unfold Hid mpF;rw[<-hlv]
  cases r.mp ((r.e x).pg:Nat)<;>rfl
 have HRD:Hid ((lv=x->r.pdrop x=Raw.drop {r.cold x with mp:=updP (r.cold x).mp (r.e x).pg none,mc:=if(mpF (r.cold x).mp ((r.e x).pg:Nat)).isSome then(r.cold x).mc-1 else(r.cold x).mc} x)/\(¬lv=x->r.pdrop x=(r.cold x).drop x)):=by
  refine⟨λe=>?_,λe=>?_⟩
  .unfold Raw.pdrop Raw.forget
   have:((r.cold x).mp (((r.cold x).e x).pg:Nat)).getD 0=x:=hlv.trans e;rw[if_pos this];rfl
  .unfold Raw.pdrop Raw.forget
   have:¬((r.cold x).mp (((r.cold x).e x).pg:Nat)).getD 0=x:=by intro q;exact e (hlv.symm.trans q)
   rw[if_neg this]
 have hri:(r.cold x).ids=r.ids/\(r.cold x).mp=r.mp:=⟨rfl,rfl⟩;clear h hx hlv;generalize hhot:(r.e x).hot=hot0 at*;have HC:Hid (r.cold x=if hot0 then{r with hot:=r.hot-1}else r):=by unfold Hid Raw.cold;rw[hhot];cases hot0<;>rfl
 clear hhot;generalize hpg:(r.e x).pg=pg at*;clear hpg;have HLV3:Hid ((mpF (r.cold x).mp (pg:Nat)).getD (.int .i64 0)=.int .i64 (lv:Nat)):=by unfold Hid;rw[hri.2];exact HLV.out
 have HXI:Hid (x∈(r.cold x).ids):=by unfold Hid;rw[hri.1];exact HX.out
 have b3:Blk (w.alloc (.cells #[.int .u32 (pg:Nat),.int .i64 (r.e x).fr,.bool hot0,.bool (r.e x).ref,.bool (r.e x).test,.bool (r.v x)] 281)) w.heap.size 6 (λi=>#[.int .u32 (pg:Nat),.int .i64 (r.e x).fr,.bool hot0,.bool (r.e x).ref,.bool (r.e x).test,.bool (r.v x)].getD i undef):=Blk.new _ _ _ 6 _ _ rfl rfl (λi hi=>by
  match i,hi with
  |0,_|1,_|2,_|3,_|4,_|5,_=>rfl)
 have f3:Fr (FPr A b) w (w.alloc (.cells #[.int .u32 (pg:Nat),.int .i64 (r.e x).fr,.bool hot0,.bool (r.e x).ref,.bool (r.e x).test,.bool (r.v x)] 281)):=(Fr.refl _ w).alloc _;have h3:=H.out.fr0 ((Fr.refl NoF w).alloc (.cells #[.int .u32 (pg:Nat),.int .i64 (r.e x).fr,.bool hot0,.bool (r.e x).ref,.bool (r.e x).test,.bool (r.v x)] 281));clear hri;have B4:=Hd b3;have H4:=Hd h3;have F4:=Hd f3;clear h3 b3 f3;go_enter func247,ntmps247
 go_upto_region 1 with fail
 clear c1 x0 x1 x2 x3 x4 x5 le;generalize w.alloc (.cells #[.int .u32 (pg:Nat),.int .i64 (r.e x).fr,.bool hot0,.bool (r.e x).ref,.bool (r.e x).test,.bool (r.v x)] 281)=wA at*;have ldA:=B4.out.lt;have lbA:=H4.out.hd.lt;have d2:=B4.out.cell (i:=2) (by omega);simp only[Array.getD,List.getElem_toArray,List.getElem_cons_zero,List.getElem_cons_succ]at d2
 cases hot0
 case' true=>
  have h3:=H4.out;have b3:=B4.out;have f3:=F4.out;have hh1:1<=r.hot:=hh rfl;have hh3:1<=(r.hot:Int):=by omega
  have hh4:(r.hot:Int)<=140000:=by omega
  have c8:wA.cell? ⟨b,8,none⟩=some (.int .i64 (r.hot:Nat)):=h3.c 8 (by omega);have fz8:=h3.hd.frozen 8;have nb:¬w.heap.size=b:=by omega
  have b4:=b3.other (a:=⟨b,8,none⟩) nb (.int .i64 ((r.hot-1:Nat):Int));have h4:PC (wA.setCell ⟨b,8,none⟩ (.int .i64 ((r.hot-1:Nat):Int))) b n A {r with hot:=r.hot-1}:=h3.setHead (r':={r with hot:=r.hot-1}) (j6 _ _ _ _ _) rfl;have f4:Fr (FPr A b) w (wA.setCell ⟨b,8,none⟩ (.int .i64 ((r.hot-1:Nat):Int))):=f3.setCell (p:=⟨b,8,none⟩) (.inl (.inl rfl)) _;have e8:((r.hot-1:Nat):Int)=(r.hot:Int)-1:=by omega
  rw[e8]at b4 h4 f4;have B4:=Hd b4;have H4:=Hd h4;have F4:=Hd f4;clear b4 h4 f4 h3 b3 f3 e8
  go_upto_region 3 with fail
  clear fz8 c8 hh1 hh3 hh4;generalize wA.setCell ⟨b,8,none⟩ (.int .i64 ((r.hot:Int)-1))=w3 at*
 case' false=>
  go_upto_region 3 with fail
  generalize wA=w3 at*
 all_goals
  have h3:PC w3 b n A (r.cold x):=by rw[HC.out];exact H4.out
  have hb3:=B4.out;have F3:=F4;clear hh hh2 d2 ldA lbA HC H4 B4 F4;generalize r.cold x=r3 at*;have c6:w3.cell? ⟨b,6,none⟩=some (.map (some A.mb)):=h3.c 6 (by omega);have d0:=hb3.cell (i:=0) (by omega);simp only[Array.getD,List.getElem_toArray,List.getElem_cons_zero,List.getElem_cons_succ]at d0;have ld:=hb3.lt;have lb3:=h3.hd.lt;have H3:=Hd h3;have B3:=Hd hb3
  have HLK:∀d,(Instr.lookup 111 (.map (some A.mb)) (.int .u32 (pg:Nat)) false).run prog (w3.drewN d)=.ok (.int .i64 (lv:Nat)) (w3.drewN d):=λd=>by
   have:=(h3.fr0 ((Fr.refl NoF w3).drewN d)).mp.look_run MVg (x:=(pg:Nat)) hwf.out;rw[this,HLV3.out]
  clear h3 hb3;by_cases hlx:lv=x
  .have HR:=Hd (HRD.out.1 hlx)
   have hlx':((lv:Int)==(x:Int))=true:=by simp;omega
   clear HRD
   go_quiet (fail)
   have g5:Fr NoF w3 ((w3.drewN nq).drew):=((Fr.refl NoF w3).drewN nq).drew;have g5':Fr NoF w3 (w3.drewN nq):=(Fr.refl NoF w3).drewN nq;obtain⟨w5,r5,m5,f5⟩:=(H3.out.fr0 g5).mp.del_run MVg (x:=(pg:Nat)) hwf.out 0;have hm5:=m5;rw[show(none:Option Value)=(none:Option Nat).map λ(x:Nat)=>Value.int .i64 x from rfl,t8]at hm5;have h5:=(H3.out.fr0 g5).setMp hm5 f5;have F5:Hid (Fr (FPr A b) w w5):=(F3.out.trans g5 (λ_ q=>q.elim)).trans f5 (λi q=>.inl (.inr (.inr (.inr (.inl q)))));have HDR:=Hd (uw h5 (x:=x) HXI.out);have d6:(w3.drewN nq).cell? ⟨b,6,none⟩=some (.map (some A.mb)):=(H3.out.fr0 g5').c 6 (by omega);have d7:(w3.drewN nq).cell? ⟨w.heap.size,0,none⟩=some (.int .u32 (pg:Nat)):=(B3.out.fr g5' id).cell (i:=0) (by omega);have l6:b<(w3.drewN nq).heap.size:=(H3.out.fr0 g5').hd.lt;have l7:w.heap.size<(w3.drewN nq).heap.size:=(B3.out.fr g5' id).lt;clear HLK h5 m5 hm5 f5 g5 g5' c6 d0 ld lb3;generalize w3.drewN nq=wz at*
   go_wp2_with fail
   go_region_with (fail)
   all_goals
    go_wp2_with fail
    refine HDR.out.mono ?_;clear HDR;rintro e w6⟨rfl,h6,f6⟩;have H6:=Hd (And.intro h6 (F5.out.trans f6 (λi q=>.inl (q.elim .inl (λq=>.inr (.inr (.inr (.inr q))))))));clear h6 f6;go_wp2;go_returns;exact⟨rfl,by rw[HR.out];exact H6.out⟩
  .have HR:=Hd (HRD.out.2 hlx)
   have hlx':((lv:Int)==(x:Int))=false:=by simp;omega
   clear HRD
   go_quiet (fail)
   have g5':Fr NoF w3 (w3.drewN nq):=(Fr.refl NoF w3).drewN nq;have F5:Hid (Fr (FPr A b) w (w3.drewN nq)):=F3.out.trans g5' (λ_ q=>q.elim);have HDR:=Hd (uw (H3.out.fr0 g5') (x:=x) HXI.out);clear HLK g5' c6 d0 ld lb3
   go_wp2_with fail
   refine HDR.out.mono ?_;clear HDR;rintro e w6⟨rfl,h6,f6⟩;have H6:=Hd (And.intro h6 (F5.out.trans f6 (λi q=>.inl (q.elim .inl (λq=>.inr (.inr (.inr (.inr q))))))));clear h6 f6;go_wp2;go_returns;exact⟨rfl,by rw[HR.out];exact H6.out⟩
end
end
section
open Go.RowKit
structure PK(n m:Nat)(s:PrS):Prop where
 hl:∀j,j<3->s.hd j<s.L.length\/s.L=[]/\s.hd j=0
 uq:∀(i j:Nat) (x y:En),s.L[i]?=some x->s.L[j]?=some y->(x.pg=y.pg\/x.fr=y.fr/\0<=x.fr)->i=j
 el:∀x∈s.L,(-1<=x.fr/\x.fr<n)/\(1<=x.pg/\x.pg<4294967296)/\(x.fr<0->x.test=true/\x.ref=false)/\(x.hot=true->x.test=false)
 ng:s.gone<=m
 gl:1<=s.goal/\s.goal<=max (n-1) 1
 n1:1<=n
def PrS.K(s:PrS)(a:Int)(b:Nat):Prop:=∃x∈s.L,x.fr=a/\x.pg=b
structure PM(n:Nat)(s:PrS):Prop where
 pf:∀(a b:Nat),s.K a b->s.pg a=b
 p0:∀f,f<n->(∀b,¬s.K f b)->s.pg f=0/\s.on f=false
section
variable{n m:Nat}{s s':PrS}{i j:Nat}{x y:En}
theorem aB{l:List En}(h:l[i]?=some x):x∈l:=List.mem_of_getElem? h
theorem aX{l:List En}(h:l[i]?=some x):i<l.length:=(List.getElem?_eq_some_iff.1 h).1
theorem PK.lt(h:PK n m s)(hL:0<s.L.length){j:Nat}(hj:j<3):s.hd j<s.L.length:=by
 rcases h.hl j hj with q|⟨q,_⟩
 .exact q
 .rw[q]at hL;simp at hL
theorem PK.at(h:PK n m s)(hL:0<s.L.length){j:Nat}(hj:j<3):∃x,s.L[s.hd j]?=some x:=⟨_,List.getElem?_eq_getElem (h.lt hL hj)⟩
theorem ir(h:¬s.hotN=0):0<s.L.length:=by
 unfold PrS.hotN at h;have:=List.countP_le_length (p:=λe:En=>e.hot) (l:=s.L);omega
theorem iD(h:¬s.gone=0):0<s.L.length:=by
 unfold PrS.gone at h;have:=List.countP_le_length (p:=λe:En=>decide (e.fr<0)) (l:=s.L);omega
theorem PM.of(h:PM n s)(hp:s'.pg=s.pg)(ho:s'.on=s.on)(hk:∀(a b:Nat),s'.K a b↔s.K a b):PM n s':=
 ⟨λa b k=>by rw[hp];exact h.pf a b ((hk a b).1 k),λf hf k=>by rw[hp,ho];exact h.p0 f hf (λb q=>k b ((hk f b).2 q))⟩
theorem PK.mv(h:PK n m s)(hL:0<s.L.length)(j:Nat):PK n m (s.mv j):=by
 refine⟨λk hk=>.inl ?_,h.uq,h.el,h.ng,h.gl,h.n1⟩
 show upd s.hd j _ k<s.L.length
 by_cases e:k=j
 .subst e;rw[upd_same];exact Nat.mod_lt _ hL
 .rw[aa _ _ e];exact h.lt hL hk
theorem vm(hx:s.L[i]?=some x)(e1:y.pg=x.pg)(e2:y.fr=x.fr)(a:Int)(b:Nat):(s.put i y).K a b↔s.K a b:=by
 have hi:=aX hx;constructor
 .rintro⟨z,hz,q1,q2⟩
  rcases set_mem hz with rfl|hz
  .exact⟨x,aB hx,by rw[<-e2];exact q1,by rw[<-e1];exact q2⟩
  .exact⟨z,hz,q1,q2⟩
 .rintro⟨z,hz,q1,q2⟩
  obtain⟨k,hk⟩:=List.getElem?_of_mem hz;by_cases e:i=k
  .subst e
   rw[hx]at hk;cases hk
   exact⟨y,List.mem_of_getElem? (i:=i) (by show(s.L.set i y)[i]?=_;rw[List.getElem?_set,if_pos rfl,if_pos hi]),by rw[e2];exact q1,by rw[e1];exact q2⟩
  .exact⟨z,List.mem_of_getElem? (i:=k) (by show(s.L.set i y)[k]?=_;rw[List.getElem?_set,if_neg e];exact hk),q1,q2⟩
theorem yk{l:List En}(h:∀(i j:Nat) (x y:En),l[i]?=some x->l[j]?=some y->(x.pg=y.pg\/x.fr=y.fr/\0<=x.fr)->i=j)(hx:l[i]?=some x)(e1:y.pg=x.pg)(e2:y.fr=x.fr\/y.fr<0):
  ∀(a b:Nat) (u v:En),(l.set i y)[a]?=some u->(l.set i y)[b]?=some v->(u.pg=v.pg\/u.fr=v.fr/\0<=u.fr)->a=b:=by
 intro a b u v hu hv q;have hi:=aX hx;rw[List.getElem?_set]at hu hv;by_cases ea:i=a
 .by_cases eb:i=b
  .omega
  .subst ea
   rw[if_pos rfl,if_pos hi]at hu;rw[if_neg eb]at hv
   cases hu
   refine h i b x v hx hv ?_;rcases q with q|⟨q,q'⟩
   .exact .inl (by rw[<-e1];exact q)
   .rcases e2 with e2|e2
    .exact .inr (by rw[<-e2];exact⟨q,q'⟩)
    .omega
 .by_cases eb:i=b
  .subst eb
   rw[if_neg ea]at hu;rw[if_pos rfl,if_pos hi]at hv
   cases hv
   refine h a i u x hu hx ?_;rcases q with q|⟨q,q'⟩
   .exact .inl (by rw[<-e1];exact q)
   .rcases e2 with e2|e2
    .exact .inr (by rw[<-e2];exact⟨q,q'⟩)
    .omega
  .rw[if_neg ea]at hu
   rw[if_neg eb]at hv;exact h a b u v hu hv q
theorem dR(hx:s.L[i]?=some x)(e2:y.fr=x.fr):(s.put i y).gone=s.gone:=by
 have:=cm (p:=λe:En=>decide (e.fr<0)) (y:=y) hx;simp only[e2]at this;exact Nat.add_right_cancel this
theorem i9(hx:s.L[i]?=some x):(s.put i y).hotN+(if x.hot=true then 1 else 0)=s.hotN+(if y.hot=true then 1 else 0):=cm (p:=λe:En=>e.hot) hx
theorem PK.put(h:PK n m s)(hx:s.L[i]?=some x)(e1:y.pg=x.pg)(e2:y.fr=x.fr)(e3:y.fr<0->y.test=true/\y.ref=false)(e4:y.hot=true->y.test=false):PK n m (s.put i y):=by
 refine⟨λj hj=>.inl ?_,yk h.uq hx e1 (.inl e2),λz hz=>?_,by rw[dR hx e2];exact h.ng,h.gl,h.n1⟩
 .show s.hd j<(s.L.set i y).length
  rw[List.length_set];exact h.lt (by have:=aX hx;omega) hj
 .rcases set_mem hz with rfl|hz
  .obtain⟨q1,q2,_,_⟩:=h.el x (aB hx)
   exact⟨by rw[e2];exact q1,by rw[e1];exact q2,e3,e4⟩
  .exact h.el z hz
theorem PM.put(h:PM n s)(hx:s.L[i]?=some x)(e1:y.pg=x.pg)(e2:y.fr=x.fr):PM n (s.put i y):=h.of rfl rfl (λa b=>vm hx e1 e2 a b)
theorem PK.less(h:PK n m s):PK n m s.less:=⟨h.hl,h.uq,h.el,h.ng,by have:=h.gl;show 1<=max (s.goal-1) 1/\max (s.goal-1) 1<=_;omega,h.n1⟩
theorem yo(hi:i<s.L.length):(s.drop i).L.length=s.L.length-1:=List.length_eraseIdx_of_lt hi
theorem PK.drop(h:PK n m s)(hx:s.L[i]?=some x):PK n m (s.drop i):=by
 have hi:=aX hx;refine⟨λj hj=>?_,λa b u v hu hv q=>?_,λz hz=>h.el z (List.mem_of_mem_eraseIdx hz),?_,h.gl,h.n1⟩
 .have hd:=h.lt (by omega) hj
  have hl:=yo hi;by_cases e:s.L.length=1
  .right
   constructor
   .exact List.eq_nil_of_length_eq_zero (by omega)
   .show cK i (s.L.length-1) (s.hd j)=0
    unfold cK;rw[if_pos (by omega)]
  .left
   rw[hl]
   show cK i (s.L.length-1) (s.hd j)<_
   unfold cK
   (repeat' split)<;>omega
 .have hu:(s.L.eraseIdx i)[a]?=some u:=hu
  have hv:(s.L.eraseIdx i)[b]?=some v:=hv;rw[bc]at hu hv;by_cases ha:a<i<;>by_cases hb:b<i
  .rw[if_pos ha]at hu;rw[if_pos hb]at hv;exact h.uq a b u v hu hv q
  .rw[if_pos ha]at hu;rw[if_neg hb]at hv;have:=h.uq a (b+1) u v hu hv q;omega
  .rw[if_neg ha]at hu;rw[if_pos hb]at hv;have:=h.uq (a+1) b u v hu hv q;omega
  .rw[if_neg ha]at hu;rw[if_neg hb]at hv;have:=h.uq (a+1) (b+1) u v hu hv q;omega
 .have:=bW (p:=λe:En=>decide (e.fr<0)) hx
  have h2:=h.ng;unfold PrS.gone at h2⊢
  show(s.L.eraseIdx i).countP _<=m
  omega
theorem cV(hx:s.L[i]?=some x):(s.drop i).gone+(if x.fr<0 then 1 else 0)=s.gone:=by
 have:=bW (p:=λe:En=>decide (e.fr<0)) hx;simp only[decide_eq_true_eq]at this;exact this
theorem kG(hx:s.L[i]?=some x):(s.drop i).hotN+(if x.hot=true then 1 else 0)=s.hotN:=bW (p:=λe:En=>e.hot) hx
theorem oC(h:PK n m s)(hx:s.L[i]?=some x)(a b:Nat):(s.drop i).K a b↔s.K a b/\¬x.fr=a:=by
 constructor
 .rintro⟨z,hz,q1,q2⟩
  refine⟨⟨z,List.mem_of_mem_eraseIdx hz,q1,q2⟩,λe=>?_⟩;obtain⟨k,hk⟩:=List.getElem?_of_mem hz;have hk:(s.L.eraseIdx i)[k]?=some z:=hk;rw[bc]at hk
  split at hk
  .have:=h.uq i k x z hx hk (.inr ⟨by rw[e,q1],by omega⟩);omega
  .have:=h.uq i (k+1) x z hx hk (.inr ⟨by rw[e,q1],by omega⟩);omega
 .rintro⟨⟨z,hz,q1,q2⟩,hne⟩
  obtain⟨k,hk⟩:=List.getElem?_of_mem hz;have hki:¬k=i:=by rintro rfl;rw[hx]at hk;cases hk;exact hne q1
  by_cases hlt:k<i
  .exact⟨z,List.mem_of_getElem? (i:=k) (by show(s.L.eraseIdx i)[k]?=_;rw[bc,if_pos hlt];exact hk),q1,q2⟩
  .exact⟨z,List.mem_of_getElem? (i:=k-1) (by show(s.L.eraseIdx i)[k-1]?=_;rw[bc,if_neg (by omega),show k-1+1=k from by omega];exact hk),q1,q2⟩
theorem PM.out(hm:PM n s)(h:PK n m s)(hx:s.L[i]?=some x)(hg:0<=x.fr):PM n ((s.empty x.fr.toNat).drop i):=by
 have hk:∀(a b:Nat),((s.empty x.fr.toNat).drop i).K a b↔s.K a b/\¬x.fr=a:=λa b=>oC h hx a b
 have ex:((x.fr.toNat:Nat):Int)=x.fr:=by omega
 refine⟨λa b k=>?_,λf hf k=>?_⟩
 .obtain⟨k1,k2⟩:=(hk a b).1 k
  show upd s.pg x.fr.toNat 0 a=b
  rw[aa _ _ (by omega)];exact hm.pf a b k1
 .show upd s.pg x.fr.toNat 0 f=0/\upd s.on x.fr.toNat false f=false
  by_cases e:f=x.fr.toNat
  .subst e;exact⟨upd_same ..,upd_same ..⟩
  .rw[aa _ _ e,aa _ _ e]
   exact hm.p0 f hf (λb q=>k b ((hk f b).2 ⟨q,by omega⟩))
theorem PK.empty(h:PK n m s)(f:Nat):PK n m (s.empty f):=⟨h.hl,h.uq,h.el,h.ng,h.gl,h.n1⟩
theorem zC(a:Int)(b:Nat):(s.lay x).K a b↔(x.fr=a/\x.pg=b)\/s.K a b:=by
 have hm:∀y,y∈(s.lay x).L↔y=x\/y∈s.L:=by
  intro y;unfold PrS.lay
  split
  .rename_i e;rw[e];simp
  .exact vh
 unfold PrS.K;constructor
 .rintro⟨z,hz,q1,q2⟩
  rcases(hm z).1 hz with rfl|hz
  .exact .inl ⟨q1,q2⟩
  .exact .inr ⟨z,hz,q1,q2⟩
 .rintro(⟨q1,q2⟩|⟨z,hz,q1,q2⟩)
  .exact⟨x,(hm x).2 (.inl rfl),q1,q2⟩
  .exact⟨z,(hm z).2 (.inr hz),q1,q2⟩
theorem iE:(s.lay x).gone=s.gone+(if x.fr<0 then 1 else 0):=by
 unfold PrS.lay PrS.gone
 split
 .rename_i e;rw[e];simp[List.countP_cons]
 .have:=gV (p:=λe:En=>decide (e.fr<0)) s.L (s.hd 0) x
  simp only[decide_eq_true_eq]at this;exact this
theorem tT:(s.lay x).hotN=s.hotN+(if x.hot=true then 1 else 0):=by
 unfold PrS.lay PrS.hotN
 split
 .rename_i e;rw[e];simp[List.countP_cons]
 .exact gV (p:=λe:En=>e.hot) s.L (s.hd 0) x
theorem CE:(s.lay x).L.length=s.L.length+1:=by
 unfold PrS.lay
 split
 .rename_i e;rw[e];rfl
 .exact Db ..
theorem PK.lay(h:PK n m s)(hx:(-1<=x.fr/\x.fr<n)/\(1<=x.pg/\x.pg<4294967296)/\(x.fr<0->x.test=true/\x.ref=false)/\(x.hot=true->x.test=false))(hf:0<=x.fr)(hn:∀y∈s.L,¬y.pg=x.pg/\¬y.fr=x.fr):PK n m (s.lay x):=by
 refine⟨λj hj=>.inl ?_,?_,?_,by rw[iE,if_neg (by omega)];exact h.ng,?_,h.n1⟩
 .rw[CE]
  unfold PrS.lay
  split
  .show(0:Nat)<_;omega
  .rename_i e
   have:=h.lt (by cases hL:s.L with|nil=>exact(e hL).elim|cons a l=>simp) hj
   show(if s.hd 0<=s.hd j then s.hd j+1 else s.hd j)<_
   split<;>omega
 .by_cases e:s.L=[]
  .have eL:(s.lay x).L=[x]:=by unfold PrS.lay;rw[if_pos e]
   intro a b u v hu hv _;rw[eL]at hu hv;have:=aX hu;have:=aX hv;simp at*;omega
  .have eL:(s.lay x).L=jv s.L (s.hd 0) x:=by unfold PrS.lay;rw[if_neg e]
   have h0:=h.lt (by cases hL:s.L with|nil=>exact(e hL).elim|cons a l=>simp) (j:=0) (by omega);generalize s.hd 0=p at*
   have key:∀(a:Nat) (u:En),(jv s.L p x)[a]?=some u->(a=p/\u=x)\/(∃a',s.L[a']?=some u/\¬a=p/\a=if a'<p then a' else a'+1):=by
    intro a u hu;rw[Dq _ (by omega)]at hu;by_cases ha:a<p
    .rw[if_pos ha]at hu;exact .inr ⟨a,hu,by omega,by rw[if_pos ha]⟩
    .rw[if_neg ha]at hu
     by_cases hb:a=p
     .rw[if_pos hb]at hu;cases hu;exact .inl ⟨hb,rfl⟩
     .rw[if_neg hb]at hu;exact .inr ⟨a-1,hu,hb,by rw[if_neg (by omega)];omega⟩
   intro a b u v hu hv q;rw[eL]at hu hv;rcases key a u hu with⟨ea,eu⟩|⟨a',ha,na,ea⟩
   .rcases key b v hv with⟨eb,ev⟩|⟨b',hb,nb,eb⟩
    .omega
    .subst eu
     have:=hn v (aB hb);rcases q with q|⟨q,_⟩
     .exact(this.1 q.symm).elim
     .exact(this.2 q.symm).elim
   .rcases key b v hv with⟨eb,ev⟩|⟨b',hb,nb,eb⟩
    .subst ev
     have:=hn u (aB ha);rcases q with q|⟨q,_⟩
     .exact(this.1 q).elim
     .exact(this.2 q).elim
    .have:=h.uq a' b' u v ha hb q
     subst this;omega
 .intro z hz
  have:z=x\/z∈s.L:=by
   unfold PrS.lay at hz
   split at hz
   .exact .inl (by simpa using hz)
   .exact vh.1 hz
  rcases this with rfl|hz
  .exact hx
  .exact h.el z hz
 .show 1<=(s.lay x).goal/\(s.lay x).goal<=_
  have:(s.lay x).goal=s.goal:=by unfold PrS.lay;split<;>rfl
  rw[this];exact h.gl
theorem cF:(s.lay x).pg=s.pg/\(s.lay x).on=s.on/\(s.lay x).goal=s.goal:=by unfold PrS.lay;split<;>exact⟨rfl,rfl,rfl⟩
theorem PK.again(h:PK n m s)(hx:s.L[i]?=some x)(e1:y.pg=x.pg)(e2:y.fr=x.fr)(hf:0<=x.fr)(e4:y.hot=true->y.test=false):PK n m ((s.drop i).lay y):=by
 obtain⟨q1,q2,_,_⟩:=h.el x (aB hx);refine(h.drop hx).lay ⟨by rw[e2];exact q1,by rw[e1];exact q2,λq=>by omega,e4⟩ (by omega) (λz hz=>?_);obtain⟨k,hk⟩:=List.getElem?_of_mem hz;have hk:(s.L.eraseIdx i)[k]?=some z:=hk;rw[bc]at hk;constructor
 .intro e
  split at hk
  .have:=h.uq i k x z hx hk (.inl (by rw[<-e1,e]));omega
  .have:=h.uq i (k+1) x z hx hk (.inl (by rw[<-e1,e]));omega
 .intro e
  split at hk
  .have:=h.uq i k x z hx hk (.inr ⟨by rw[<-e2,e],hf⟩);omega
  .have:=h.uq i (k+1) x z hx hk (.inr ⟨by rw[<-e2,e],hf⟩);omega
end
end
end Go.Proofs.YtoenclhimbpfeaaGreatDoor
