/- Part 26. -/
import Derived.Test.YtipopinjppjnfaaGreatDoorK25
namespace Go.Proofs.YtipopinjppjnfaaGreatDoor
set_option linter.all false
set_option maxHeartbeats 16000000
set_option maxRecDepth 100000
section
open Go.Maps Go.Proofs.Tryz Go.RowKit
section
variable{w w':World}{b n:Nat}{A:AP}{r:Raw}
theorem en_all(e:Nat->En)(v:Nat->Bool)(x:Nat)(y:En)(u:Bool):
  upd (upd (upd (upd (upd (upd (enF e v) (x*6) (.int .u32 (y.pg:Nat))) (x*6+1) (.int .i64 y.fr)) (x*6+2) (.bool y.hot)) (x*6+3) (.bool y.ref)) (x*6+4) (.bool y.test)) (x*6+5) (.bool u)=enF (upd e x y) (upd v x u):=by
 funext j
 by_cases q:j/6=x
 .have hj:j=x*6+j%6:=by omega
  have h6:j%6<6:=by omega
  generalize j%6=k at*;subst hj
  match k,h6 with
  |0,_=>
   change _=enF (upd e x y) (upd v x u) (x*6);rw[en0,upd_same];simp[upd]
  |1,_=>rw[en1,upd_same];simp[upd]
  |2,_=>rw[en2,upd_same];simp[upd]
  |3,_=>rw[en3,upd_same];simp[upd]
  |4,_=>rw[en4,upd_same];simp[upd]
  |5,_=>rw[en5,upd_same];simp[upd]
 .rw[upd_other _ _ (by omega),upd_other _ _ (by omega),upd_other _ _ (by omega),upd_other _ _ (by omega),upd_other _ _ (by omega),upd_other _ _ (by omega)]
  unfold enF;rw[upd_other _ _ q,upd_other _ _ q]
theorem PC.setE(h:PC w b n A r)(x:Nat)(y:En)(u:Bool):PC ((((((w.setCell ⟨A.eb,x*6,none⟩ (.int .u32 (y.pg:Nat))).setCell ⟨A.eb,x*6+1,none⟩ (.int .i64 y.fr)).setCell ⟨A.eb,x*6+2,none⟩ (.bool y.hot)).setCell ⟨A.eb,x*6+3,none⟩ (.bool y.ref)).setCell ⟨A.eb,x*6+4,none⟩ (.bool y.test)).setCell ⟨A.eb,x*6+5,none⟩ (.bool u)) b n A {r with e:=upd r.e x y,v:=upd r.v x u}:=by
 obtain⟨n1,n2,n3,n4,n5,n6,n7⟩:=h.lb.ne
 have f:Fr (fun k=>k=A.eb) w ((((((w.setCell ⟨A.eb,x*6,none⟩ (.int .u32 (y.pg:Nat))).setCell ⟨A.eb,x*6+1,none⟩ (.int .i64 y.fr)).setCell ⟨A.eb,x*6+2,none⟩ (.bool y.hot)).setCell ⟨A.eb,x*6+3,none⟩ (.bool y.ref)).setCell ⟨A.eb,x*6+4,none⟩ (.bool y.test)).setCell ⟨A.eb,x*6+5,none⟩ (.bool u)):=by
  exact((((((Fr.refl (fun k=>k=A.eb) w).setCell (p:=⟨A.eb,x*6,none⟩) (.inl rfl) _).setCell (p:=⟨A.eb,x*6+1,none⟩) (.inl rfl) _).setCell (p:=⟨A.eb,x*6+2,none⟩) (.inl rfl) _).setCell (p:=⟨A.eb,x*6+3,none⟩) (.inl rfl) _).setCell (p:=⟨A.eb,x*6+4,none⟩) (.inl rfl) _).setCell (p:=⟨A.eb,x*6+5,none⟩) (.inl rfl) _
 refine⟨h.hd.fr f (fun q=>n1 q.symm),h.rr.fr f (fun i hi=>(n7 i hi).2.1),?_,h.fb.fr f (fun q=>n4 q.symm),h.mp.fr f (fun q=>n5 q.symm),h.lb,h.hn⟩;rw[<-en_all];exact(((((h.en.set _ _).set _ _).set _ _).set _ _).set _ _).set _ _
theorem ck_come(h:PC w b n A r)(y:En){x:Nat}{sp':List Nat}(hs:r.sp=x::sp')(ho:r.ids=[]∨r.h 0∈r.ids):Calls prog 214 #[.pointer (some ⟨b,0,none⟩),enV y false] w fun e w'=>e=.returned (.int .i64 (x:Nat))∧PC w' b n A (r.come y)∧Fr (FPr A b) w w':=by
 have c0:w.cell? ⟨b,0,none⟩=some (.pointer (some ⟨A.rb,0,none⟩)):=h.c 0 (by omega);obtain⟨_,_,_,hsl,hd⟩:=h.lists;have hx:x<2*n:=hsl x (by rw[hs];simp);have hni:¬x∈r.ids:=fun q=>hd x q (by rw[hs];simp)
 have HF:=Hd (fun W (g:Fr NoF w W)=>First_all (h.rr.fr g (fun _ _ q=>q)) 1)
 have hh:ixI (rowZ [r.ids,r.sp] 1).head?=(x:Int):=by
  show ixI r.sp.head?=_
  rw[hs];rfl
 rw[hh]at HF;have hco:r.come y=Raw.lay {r with e:=upd r.e x y,v:=upd r.v x false} x:=by unfold Raw.come;rw[hs];rfl
 rw[hco];have HLAY:Hid (∀W,PC W b n A {r with e:=upd r.e x y,v:=upd r.v x false}->Calls prog 224 #[.pointer (some ⟨b,0,none⟩),.int .i64 x] W fun e w'=>e=.returned (.tuple #[])∧PC w' b n A (Raw.lay {r with e:=upd r.e x y,v:=upd r.v x false} x)∧Fr (FCk A b) W w'):=fun W hW=>ck_lay hW hx hni ho
 have H:=Hd h;have lw:b<w.heap.size:=h.hd.lt;have le:A.eb<w.heap.size:=h.en.lt;clear h hs hsl hd hni ho hco hh;unfold enV;generalize Raw.lay {r with e:=upd r.e x y,v:=upd r.v x false} x=rl at*;obtain⟨ypg,yfr,yhot,yref,ytest⟩:=y;simp only;have hx0:(0:Int)<=(x:Int):=by omega
 have hx1:(x:Int)<2*(n:Int):=by omega
 go_enter func214,ntmps214
 go_upto_region 1 with fail
 have fA:Fr NoF w (w.alloc (.cells #[.int .u32 (ypg:Nat),.int .i64 yfr,.bool yhot,.bool yref,.bool ytest,.bool false] 235)):=(Fr.refl NoF w).alloc _
 have HA:Hid (Blk (w.alloc (.cells #[.int .u32 (ypg:Nat),.int .i64 yfr,.bool yhot,.bool yref,.bool ytest,.bool false] 235)) w.heap.size 6 (fun i=>#[Value.int .u32 (ypg:Nat),.int .i64 yfr,.bool yhot,.bool yref,.bool ytest,.bool false].getD i undef)):=Blk.new _ _ _ 6 _ _ rfl rfl (fun i hi=>by
  match i,hi with
  |0,_=>rfl
  |1,_=>rfl
  |2,_=>rfl
  |3,_=>rfl
  |4,_=>rfl
  |5,_=>rfl)
 have FA:=Hd fA;clear fA c0;generalize w.alloc (.cells #[.int .u32 (ypg:Nat),.int .i64 yfr,.bool yhot,.bool yref,.bool ytest,.bool false] 235)=wA at*;have c0:wA.cell? ⟨b,0,none⟩=some (.pointer (some ⟨A.rb,0,none⟩)):=(H.out.fr0 FA.out).c 0 (by omega)
 go_wp2_with fail
 refine(HF.out _ FA.out).mono ?_;clear HF;rintro e w1⟨rfl,d,rfl⟩;have h1:PC (wA.drewN d) b n A r:=(H.out.fr0 FA.out).fr0 ((Fr.refl NoF wA).drewN d);have b1:Blk (wA.drewN d) w.heap.size 6 _:=HA.out.drewN d;have F1:=Hd (FA.out.trans ((Fr.refl NoF wA).drewN d) (fun _ q=>q.elim));clear H HA FA c0;generalize wA.drewN d=w2 at*;have H1:=Hd h1;have e1:w2.cell? ⟨b,1,none⟩=some (.slice (some ⟨A.eb,0,none⟩) (2*n) (2*n)):=h1.c 1 (by omega);have fz:=fun i=>h1.en.frozen i
 obtain⟨x0,x1,x2,x3,x4,x5⟩:=h1.ce hx;have g0:=b1.cell (i:=0) (by omega);have g1:=b1.cell (i:=1) (by omega);have g2:=b1.cell (i:=2) (by omega);have g3:=b1.cell (i:=3) (by omega);have g4:=b1.cell (i:=4) (by omega);have g5:=b1.cell (i:=5) (by omega);have lw2:=h1.hd.lt;have le2:=h1.en.lt;have lb2:=b1.lt;simp only[Array.getD,List.getElem_toArray,List.getElem_cons_zero,List.getElem_cons_succ]at g0 g1 g2 g3 g4 g5;clear h1 b1
 have HW:Hid (∀W,Fr NoF w2 W->PC ((((((W.setCell ⟨A.eb,x*6,none⟩ (.int .u32 (ypg:Nat))).setCell ⟨A.eb,x*6+1,none⟩ (.int .i64 yfr)).setCell ⟨A.eb,x*6+2,none⟩ (.bool yhot)).setCell ⟨A.eb,x*6+3,none⟩ (.bool yref)).setCell ⟨A.eb,x*6+4,none⟩ (.bool ytest)).setCell ⟨A.eb,x*6+5,none⟩ (.bool false)) b n A {r with e:=upd r.e x ⟨ypg,yfr,yhot,yref,ytest⟩,v:=upd r.v x false}∧
   Fr (FPr A b) w ((((((W.setCell ⟨A.eb,x*6,none⟩ (.int .u32 (ypg:Nat))).setCell ⟨A.eb,x*6+1,none⟩ (.int .i64 yfr)).setCell ⟨A.eb,x*6+2,none⟩ (.bool yhot)).setCell ⟨A.eb,x*6+3,none⟩ (.bool yref)).setCell ⟨A.eb,x*6+4,none⟩ (.bool ytest)).setCell ⟨A.eb,x*6+5,none⟩ (.bool false))):=fun W g=>
  ⟨(H1.out.fr0 g).setE x ⟨ypg,yfr,yhot,yref,ytest⟩ false,(((((((F1.out.mono (fun _ q=>q.elim)).trans g (fun _ q=>q.elim)).setCell (p:=⟨A.eb,x*6,none⟩) (.inl (.inr (.inl rfl))) _).setCell (p:=⟨A.eb,x*6+1,none⟩) (.inl (.inr (.inl rfl))) _).setCell (p:=⟨A.eb,x*6+2,none⟩) (.inl (.inr (.inl rfl))) _).setCell (p:=⟨A.eb,x*6+3,none⟩) (.inl (.inr (.inl rfl))) _).setCell (p:=⟨A.eb,x*6+4,none⟩) (.inl (.inr (.inl rfl))) _).setCell (p:=⟨A.eb,x*6+5,none⟩) (.inl (.inr (.inl rfl))) _⟩
 clear H1 F1
 go_wp2_with fail
 go_region_with (fail)
 all_goals
  obtain⟨hp0,fp0⟩:=HW.out w2 (Fr.refl NoF w2);have hp:=hp0.fr0 (Fr.refl NoF _).drew;have fp:=fp0.drew;clear hp0 fp0;have HP:=Hd (HLAY.out _ hp);have FQ:=Hd fp;clear hp fp HW HLAY e1 fz x0 x1 x2 x3 x4 x5 g0 g1 g2 g3 g4 g5
  go_wp2_with fail
  refine HP.out.mono ?_;clear HP;rintro e w3⟨rfl,h3,f3⟩;have H3:=Hd (And.intro h3 (FQ.out.trans f3 (fun i q=>.inl (q.elim .inl (fun q=>.inr (.inr (.inr (.inr q))))))));clear h3 f3;go_wp2;go_returns;exact⟨rfl,H3.out⟩
end
section
variable{w w':World}{b n:Nat}{A:AP}{r:Raw}
theorem pr_isFrame(h:PC w b n A r){f:Nat}(hf:f<n):Calls prog 213 #[.pointer (some ⟨b,0,none⟩),.int .i64 f] w fun e w'=>e=.returned (.bool true)∧w=w':=by
 have c5:w.cell? ⟨b,5,none⟩=some (.slice (some ⟨A.fb,0,none⟩) n n):=h.c 5 (by omega);have hd:decide ((f:Int)<(n:Int))=true:=by simp;omega
 have hd2:decide (f<n)=true:=by simp;omega
 clear h;go_enter func213,ntmps213;go_wp2;go_returns;exact⟨rfl,rfl⟩
theorem pr_has(h:PC w b n A r){f:Nat}(hf:f<n)(x:Nat)(hx:r.fm f=x):Calls prog 216 #[.pointer (some ⟨b,0,none⟩),.int .i64 f] w fun e w'=>e=.returned (.bool true)∧w=w':=by
 have c5:w.cell? ⟨b,5,none⟩=some (.slice (some ⟨A.fb,0,none⟩) n n):=h.c 5 (by omega);have cf:=h.cf hf;rw[hx]at cf;have HI:=Hd (pr_isFrame h hf);have hne:((x:Int)== -1)=false:=by simp
 have h0:(0:Int)<=(f:Int):=by omega
 have h1:(f:Int)<(n:Int):=by omega
 clear h hx;go_enter func216,ntmps216
 go_wp2_with(go_at_call 213;refine HI.out.mono ?_;rintro e w'⟨rfl,rfl⟩)
 go_returns;exact⟨rfl,rfl⟩
theorem pr_greatest(h:PC w b n A r)(h1:1<=n):Calls prog 64 #[.pointer (some ⟨b,0,none⟩)] w fun e w'=>e=.returned (.int .i64 ((max (n-1) 1:Nat):Int))∧w=w':=by
 have c5:w.cell? ⟨b,5,none⟩=some (.slice (some ⟨A.fb,0,none⟩) n n):=h.c 5 (by omega);have hn:=h.hn;clear h;go_enter func64,ntmps64;go_wp2
 all_goals go_returns
 all_goals exact⟨congrArg (fun z=>Ending.returned (.int .i64 z)) (by omega),rfl⟩
theorem pr_size(h:PC w b n A r):Calls prog 210 #[.pointer (some ⟨b,0,none⟩)] w fun e w'=>e=.returned (.int .i64 (r.size:Nat))∧w=w':=by
 have c9:w.cell? ⟨b,9,none⟩=some (.int .i64 (r.size:Nat)):=h.c 9 (by omega);clear h;go_enter func210,ntmps210;go_wp2;go_returns;exact⟨rfl,rfl⟩
theorem pr_miss(a:Option Addr)(p:Int):Calls prog 207 #[.pointer a,.int .u32 p] w fun e w'=>e=.returned (.tuple #[])∧w=w':=by
 go_enter func207,ntmps207;go_wp2;go_returns;exact⟨rfl,rfl⟩
def Raw.setV(r:Raw)(x:Nat)(u:Bool):Raw:=if r.v x=u then r else{r with v:=upd r.v x u,size:=if u=true then r.size+1 else r.size-1}
theorem PC.setV(h:PC w b n A r){x z:Nat}(u:Bool):PC ((w.setCell ⟨A.eb,x*6+5,none⟩ (.bool u)).setCell ⟨b,9,none⟩ (.int .i64 (z:Nat))) b n A {r with v:=upd r.v x u,size:=z}:=by
 have h1:=h.setEn (r':={r with v:=upd r.v x u}) (en_v r.e r.v x u) rfl;exact h1.setHead (r':={r with v:=upd r.v x u,size:=z}) (prH_size _ _ _ _ _) rfl
theorem pr_set(h:PC w b n A r){f:Nat}(hf:f<n){x:Nat}(hx:r.fm f=x)(hx2:x<2*n)(u:Bool)(hz:u=false->r.v x=true->1<=r.size)(hz2:r.size<=70000):
  Calls prog 209 #[.pointer (some ⟨b,0,none⟩),.int .i64 f,.bool u] w fun e w'=>e=.returned (.tuple #[])∧PC w' b n A (r.setV x u)∧Fr (FPr A b) w w':=by
 have HH:=Hd (pr_has h hf x hx);have c1:w.cell? ⟨b,1,none⟩=some (.slice (some ⟨A.eb,0,none⟩) (2*n) (2*n)):=h.c 1 (by omega);have c5:w.cell? ⟨b,5,none⟩=some (.slice (some ⟨A.fb,0,none⟩) n n):=h.c 5 (by omega);have c9:w.cell? ⟨b,9,none⟩=some (.int .i64 (r.size:Nat)):=h.c 9 (by omega);have cf:=h.cf hf;rw[hx]at cf;obtain⟨_,_,_,_,_,x5⟩:=h.ce hx2;have fe:=fun i=>h.en.frozen i
 have fb9:=h.hd.frozen 9;have lb:=h.hd.lt;have le:=h.en.lt;obtain⟨n1,_,_,_,_,_,_⟩:=h.lb.ne;have n1':¬b=A.eb:=fun e=>n1 e.symm
 have h0:(0:Int)<=(f:Int):=by omega
 have h1:(f:Int)<(n:Int):=by omega
 have g0:(0:Int)<=(x:Int):=by omega
 have g1:(x:Int)<2*(n:Int):=by omega
 have H:=Hd h
 have HK:Hid (∀d z:Nat,PC (((w.drewN d).setCell ⟨A.eb,x*6+5,none⟩ (.bool u)).setCell ⟨b,9,none⟩ (.int .i64 (z:Nat))) b n A {r with v:=upd r.v x u,size:=z}∧Fr (FPr A b) w (((w.drewN d).setCell ⟨A.eb,x*6+5,none⟩ (.bool u)).setCell ⟨b,9,none⟩ (.int .i64 (z:Nat)))):=fun d z=>
  ⟨(h.fr0 ((Fr.refl NoF w).drewN d)).setV u,(((Fr.refl (FPr A b) w).drewN d).setCell (p:=⟨A.eb,x*6+5,none⟩) (.inl (.inr (.inl rfl))) _).setCell (p:=⟨b,9,none⟩) (.inl (.inl rfl)) _⟩
 have HX:=Hd hx;clear h hx;unfold Raw.setV;generalize hv:r.v x=v0 at*
 cases v0<;>cases u
 .rw[if_pos rfl]
  have HV:=Hd hv;clear hv;go_enter func209,ntmps209
  go_wp2_with(go_at_call 216;refine HH.out.mono ?_;rintro e w'⟨rfl,rfl⟩)
  go_quiet (fail)
  go_wp2;go_returns;exact⟨rfl,H.out.fr0 (by repeat(first|exact Fr.refl NoF _|apply Fr.drew|apply Fr.drewN)),by repeat(first|exact Fr.refl _ _|apply Fr.drew|apply Fr.drewN)⟩
 .rw[if_neg (by simp),if_pos rfl]
  have HV:=Hd hv;clear hv;go_enter func209,ntmps209
  go_wp2_with(go_at_call 216;refine HH.out.mono ?_;rintro e w'⟨rfl,rfl⟩)
  go_quiet (fail)
  go_wp2;go_returns;exact⟨rfl,HK.out _ (r.size+1)⟩
 .rw[if_neg (by simp),if_neg (by simp)]
  have hz1:1<=r.size:=hz rfl rfl;have hz3:1<=(r.size:Int):=by omega
  clear hz;have HV:=Hd hv;clear hv;go_enter func209,ntmps209
  go_wp2_with(go_at_call 216;refine HH.out.mono ?_;rintro e w'⟨rfl,rfl⟩)
  go_quiet (fail)
  go_wp2;go_returns;have e1:((r.size:Int)-1)=((r.size-1:Nat):Int):=by omega
  rw[e1];exact⟨rfl,HK.out _ (r.size-1)⟩
 .rw[if_pos rfl]
  have HV:=Hd hv;clear hv;go_enter func209,ntmps209
  go_wp2_with(go_at_call 216;refine HH.out.mono ?_;rintro e w'⟨rfl,rfl⟩)
  go_quiet (fail)
  go_wp2;go_returns;exact⟨rfl,H.out.fr0 (by repeat(first|exact Fr.refl NoF _|apply Fr.drew|apply Fr.drewN)),by repeat(first|exact Fr.refl _ _|apply Fr.drew|apply Fr.drewN)⟩
end
def Raw.empty(r:Raw)(f x:Nat):Raw:={r.setV x false with e:=upd r.e x {r.e x with fr:= -1},fm:=upd r.fm f (-1)}
def Raw.cold(r:Raw)(x:Nat):Raw:={r with hot:=if(r.e x).hot=true then r.hot-1 else r.hot}
def Raw.forget(r:Raw)(x:Nat):Raw:=
 if(r.mp ((r.e x).pg:Nat)).getD 0=x then{r with mp:=updP r.mp (r.e x).pg none,mc:=if(mpF r.mp ((r.e x).pg:Nat)).isSome then r.mc-1 else r.mc}else r
def Raw.pdrop(r:Raw)(x:Nat):Raw:=((r.cold x).forget x).drop x
section
variable{w w':World}{b n:Nat}{A:AP}{r:Raw}
theorem setV_e(x:Nat)(u:Bool):(r.setV x u).e=r.e∧(r.setV x u).fm=r.fm∧(r.setV x u).ids=r.ids∧(r.setV x u).h=r.h∧(r.setV x u).mp=r.mp:=by unfold Raw.setV;split<;>exact⟨rfl,rfl,rfl,rfl,rfl⟩
theorem pr_empty(h:PC w b n A r){f:Nat}(hf:f<n){x:Nat}(hx:r.fm f=x)(hx2:x<2*n)(hz:r.v x=true->1<=r.size)(hz2:r.size<=70000):
  Calls prog 217 #[.pointer (some ⟨b,0,none⟩),.int .i64 f] w fun e w'=>e=.returned (.tuple #[])∧PC w' b n A (r.empty f x)∧Fr (FPr A b) w w':=by
 have HS:=Hd (pr_set h hf hx hx2 false (fun _=>hz) hz2);obtain⟨se,sf,_,_,_⟩:=setV_e (r:=r) x false;have h0:(0:Int)<=(f:Int):=by omega
 have h1:(f:Int)<(n:Int):=by omega
 have g0:(0:Int)<=(x:Int):=by omega
 have g1:(x:Int)<2*(n:Int):=by omega
 have HX:Hid ((r.setV x false).fm f=x):=by unfold Hid;rw[sf];exact hx
 have HE:Hid (r.empty f x={r.setV x false with e:=upd (r.setV x false).e x {(r.setV x false).e x with fr:= -1},fm:=upd (r.setV x false).fm f (-1)}):=by unfold Hid Raw.empty;rw[se,sf]
 clear h hx hz se sf;rw[HE.out];generalize r.setV x false=q at*;go_enter func217,ntmps217
 go_wp2_with fail
 refine HS.out.mono ?_;clear HS;rintro e w1⟨rfl,h1',f1⟩;have c1:w1.cell? ⟨b,1,none⟩=some (.slice (some ⟨A.eb,0,none⟩) (2*n) (2*n)):=h1'.c 1 (by omega);have c5:w1.cell? ⟨b,5,none⟩=some (.slice (some ⟨A.fb,0,none⟩) n n):=h1'.c 5 (by omega);have cf:=h1'.cf hf;rw[HX.out]at cf;obtain⟨_,x1,_,_,_,_⟩:=h1'.ce hx2;have fe:=fun i=>h1'.en.frozen i
 have ff:=fun i=>h1'.fb.frozen i
 have lb:=h1'.hd.lt;have le:=h1'.en.lt;have lf:=h1'.fb.lt;obtain⟨n1,n2,_,n4,_,_,_⟩:=h1'.lb.ne;have n1':¬b=A.eb:=fun e=>n1 e.symm
 have n4':¬A.fb=A.eb:=fun e=>n4 e.symm
 have HK:Hid (PC ((w1.setCell ⟨A.eb,x*6+1,none⟩ (.int .i64 (-1))).setCell ⟨A.fb,f,none⟩ (.int .i64 (-1))) b n A {q with e:=upd q.e x {q.e x with fr:= -1},fm:=upd q.fm f (-1)}∧Fr (FPr A b) w ((w1.setCell ⟨A.eb,x*6+1,none⟩ (.int .i64 (-1))).setCell ⟨A.fb,f,none⟩ (.int .i64 (-1)))):=by
  have a1:=h1'.setEn (r':={q with e:=upd q.e x {q.e x with fr:= -1}}) (en_fr q.e q.v x (-1)) rfl;exact⟨a1.setFm (i:=f) (-1),(f1.setCell (p:=⟨A.eb,x*6+1,none⟩) (.inl (.inr (.inl rfl))) _).setCell (p:=⟨A.fb,f,none⟩) (.inl (.inr (.inr (.inl rfl)))) _⟩
 clear h1' f1 HX
 go_wp2_with fail
 go_region_with (fail)
 all_goals go_wp2
 all_goals go_returns
 all_goals exact⟨rfl,HK.out.1.fr0 (Fr.refl NoF _).drew,HK.out.2.drew⟩
theorem PC.setMp(h:PC w b n A r){c:Nat}{m:Int->Option Nat}(hm:MpV prog 32 .u32 (.int .i64 0) w' A.mb c (mpF m))(f:Fr (fun i=>i=A.mb) w w'):PC w' b n A {r with mp:=m,mc:=c}:=by
 obtain⟨n1,n2,n3,n4,n5,n6,n7⟩:=h.lb.ne;exact⟨h.hd.fr f (fun q=>n3 q.symm),h.rr.fr f (fun i hi=>(n7 i hi).2.2.2),h.en.fr f n5,h.fb.fr f n6,hm,h.lb,h.hn⟩
theorem wfU{x:Nat}(h:x<4294967296):(Lit.int .u32 (x:Int)).wf=true:=WalkArith.wf_u32 ⟨by omega,by omega⟩
theorem pr_drop(h:PC w b n A r){x:Nat}(hx:x∈r.ids)(hu:(r.e x).pg<4294967296)(hh:(r.e x).hot=true->1<=r.hot)(hh2:r.hot<=70000):
  Calls prog 215 #[.pointer (some ⟨b,0,none⟩),.int .i64 x] w fun e w'=>e=.returned (.tuple #[])∧PC w' b n A (r.pdrop x)∧Fr (FPr A b) w w':=by
 have hx2:x<2*n:=h.lists.2.2.1 x hx;have c1:w.cell? ⟨b,1,none⟩=some (.slice (some ⟨A.eb,0,none⟩) (2*n) (2*n)):=h.c 1 (by omega);obtain⟨x0,x1,x2,x3,x4,x5⟩:=h.ce hx2;have g0:(0:Int)<=(x:Int):=by omega
 have g1:(x:Int)<2*(n:Int):=by omega
 have hwf:=Hd (wfU hu);have lb:=h.hd.lt;have le:=h.en.lt;have H:=Hd h;have HX:=Hd hx;obtain⟨lv,hlv⟩:∃lv:Nat,(r.mp ((r.e x).pg:Nat)).getD 0=lv:=⟨_,rfl⟩
 have HLV:Hid ((mpF r.mp ((r.e x).pg:Nat)).getD (.int .i64 0)=.int .i64 (lv:Nat)):=by
  unfold Hid mpF;rw[<-hlv]
  cases r.mp ((r.e x).pg:Nat)<;>rfl
 have HRD:Hid (∀r1:Raw,r1=r.cold x->(lv=x->r.pdrop x=Raw.drop {r1 with mp:=updP r1.mp (r.e x).pg none,mc:=if(mpF r1.mp ((r.e x).pg:Nat)).isSome then r1.mc-1 else r1.mc} x)∧(¬lv=x->r.pdrop x=r1.drop x)):=by
  intro r1 e;subst e;refine⟨fun e=>?_,fun e=>?_⟩
  .unfold Raw.pdrop Raw.forget
   have:((r.cold x).mp (((r.cold x).e x).pg:Nat)).getD 0=x:=hlv.trans e;rw[if_pos this];rfl
  .unfold Raw.pdrop Raw.forget
   have:¬((r.cold x).mp (((r.cold x).e x).pg:Nat)).getD 0=x:=by intro q;exact e (hlv.symm.trans q)
   rw[if_neg this]
 clear h hx hlv;generalize hhot:(r.e x).hot=hot0 at*;have HHOT:=Hd hhot;clear hhot;generalize hpg:(r.e x).pg=pg at*;have HPG:=Hd hpg;clear hpg
 have HB:Hid (∀u0 u1 u2 u3 u4 u5:Value,Blk (w.alloc (.cells #[u0,u1,u2,u3,u4,u5] 235)) w.heap.size 6 (fun i=>#[u0,u1,u2,u3,u4,u5].getD i undef)):=fun u0 u1 u2 u3 u4 u5=>Blk.new _ _ _ 6 _ _ rfl rfl (fun i hi=>by
  match i,hi with
  |0,_=>rfl
  |1,_=>rfl
  |2,_=>rfl
  |3,_=>rfl
  |4,_=>rfl
  |5,_=>rfl)
 have TAIL:True:=trivial
 cases hot0<;>by_cases hlx:lv=x
 .have HC:Hid (r.cold x=r):=by unfold Hid Raw.cold;rw[HHOT.out];rfl
  have HR:=Hd ((HRD.out _ HC.out.symm).1 hlx);clear HRD;have hlx':((lv:Int)==(x:Int))=true:=by simp;omega
  go_enter func215,ntmps215
  go_upto_region 1 with fail
  have b3:=HB.out (.int .u32 (pg:Nat)) (.int .i64 (r.e x).fr) (.bool false) (.bool (r.e x).ref) (.bool (r.e x).test) (.bool (r.v x));have f3:Fr (FPr A b) w (w.alloc (.cells #[.int .u32 (pg:Nat),.int .i64 (r.e x).fr,.bool false,.bool (r.e x).ref,.bool (r.e x).test,.bool (r.v x)] 235)):=(Fr.refl _ w).alloc _;have h3:=H.out.fr0 ((Fr.refl NoF w).alloc (.cells #[.int .u32 (pg:Nat),.int .i64 (r.e x).fr,.bool false,.bool (r.e x).ref,.bool (r.e x).test,.bool (r.v x)] 235));clear HB c1 x0 x1 x2 x3 x4 x5 le;generalize w.alloc (.cells #[.int .u32 (pg:Nat),.int .i64 (r.e x).fr,.bool false,.bool (r.e x).ref,.bool (r.e x).test,.bool (r.v x)] 235)=wA at*;have ldA:=b3.lt;have lbA:=h3.hd.lt;have d2:=b3.cell (i:=2) (by omega);simp only[Array.getD,List.getElem_toArray,List.getElem_cons_zero,List.getElem_cons_succ]at d2;have B4:=Hd b3;have H4:=Hd h3;have F4:=Hd f3;clear h3 b3 f3 hh
  go_upto_region 3 with fail
  have h3:=H4.out;have b3:=B4.out;have f3:=F4.out;clear B4 H4 F4 d2 ldA lbA hh2;generalize wA=w3 at*;generalize hrr:r=r3 at h3;have hri:r3.ids=r.ids∧r3.mp=r.mp:=by rw[<-hrr];exact⟨rfl,rfl⟩
  have HRR:=Hd hrr;clear hrr;have HLV3:Hid ((mpF r3.mp (pg:Nat)).getD (.int .i64 0)=.int .i64 (lv:Nat)):=by unfold Hid;rw[hri.2];exact HLV.out
  have HXI:Hid (x∈r3.ids):=by unfold Hid;rw[hri.1];exact HX.out
  clear hri;have hb3:Blk w3 w.heap.size 6 _:=b3;have c6:w3.cell? ⟨b,6,none⟩=some (.map (some A.mb)):=h3.c 6 (by omega);have d0:=hb3.cell (i:=0) (by omega);simp only[Array.getD,List.getElem_toArray,List.getElem_cons_zero,List.getElem_cons_succ]at d0;have ld:=hb3.lt;have lb3:=h3.hd.lt;have H3:=Hd h3;have B3:=Hd hb3;have F3:=Hd f3
  have HLK:∀d,(Instr.lookup 61 (.map (some A.mb)) (.int .u32 (pg:Nat)) false).run prog (w3.drewN d)=.ok (.int .i64 (lv:Nat)) (w3.drewN d):=fun d=>by
   have:=(h3.fr0 ((Fr.refl NoF w3).drewN d)).mp.look_run MVg (x:=(pg:Nat)) hwf.out;rw[this,HLV3.out]
  clear h3 hb3 b3 f3
  go_quiet (fail)
  have g5:Fr NoF w3 ((w3.drewN nq).drew):=((Fr.refl NoF w3).drewN nq).drew;have g5':Fr NoF w3 (w3.drewN nq):=(Fr.refl NoF w3).drewN nq;obtain⟨w5,r5,m5,f5⟩:=(H3.out.fr0 g5).mp.del_run MVg (x:=(pg:Nat)) hwf.out 0;have hm5:=m5;rw[show(none:Option Value)=(none:Option Nat).map fun(x:Nat)=>Value.int .i64 x from rfl,mpF_upd]at hm5;have h5:=(H3.out.fr0 g5).setMp hm5 f5;have F5:Hid (Fr (FPr A b) w w5):=(F3.out.trans g5 (fun _ q=>q.elim)).trans f5 (fun i q=>.inl (.inr (.inr (.inr (.inl q)))));have HDR:=Hd (ck_drop h5 (x:=x) HXI.out);have d6:(w3.drewN nq).cell? ⟨b,6,none⟩=some (.map (some A.mb)):=(H3.out.fr0 g5').c 6 (by omega);have d7:(w3.drewN nq).cell? ⟨w.heap.size,0,none⟩=some (.int .u32 (pg:Nat)):=(B3.out.fr g5' id).cell (i:=0) (by omega);have l6:b<(w3.drewN nq).heap.size:=(H3.out.fr0 g5').hd.lt;have l7:w.heap.size<(w3.drewN nq).heap.size:=(B3.out.fr g5' id).lt;clear HLK h5 m5 hm5 f5 g5 g5' c6 d0 ld lb3;generalize w3.drewN nq=wz at*
  go_wp2_with fail
  go_region_with (fail)
  all_goals
   go_wp2_with fail
   refine HDR.out.mono ?_;clear HDR;rintro e w6⟨rfl,h6,f6⟩;have H6:=Hd (And.intro h6 (F5.out.trans f6 (fun i q=>.inl (q.elim .inl (fun q=>.inr (.inr (.inr (.inr q))))))));clear h6 f6;go_wp2;go_returns;exact⟨rfl,by have e:=HRR.out;subst e;rw[HR.out];exact H6.out⟩
 .have HC:Hid (r.cold x=r):=by unfold Hid Raw.cold;rw[HHOT.out];rfl
  have HR:=Hd ((HRD.out _ HC.out.symm).2 hlx);clear HRD;have hlx':((lv:Int)==(x:Int))=false:=by simp;omega
  go_enter func215,ntmps215
  go_upto_region 1 with fail
  have b3:=HB.out (.int .u32 (pg:Nat)) (.int .i64 (r.e x).fr) (.bool false) (.bool (r.e x).ref) (.bool (r.e x).test) (.bool (r.v x));have f3:Fr (FPr A b) w (w.alloc (.cells #[.int .u32 (pg:Nat),.int .i64 (r.e x).fr,.bool false,.bool (r.e x).ref,.bool (r.e x).test,.bool (r.v x)] 235)):=(Fr.refl _ w).alloc _;have h3:=H.out.fr0 ((Fr.refl NoF w).alloc (.cells #[.int .u32 (pg:Nat),.int .i64 (r.e x).fr,.bool false,.bool (r.e x).ref,.bool (r.e x).test,.bool (r.v x)] 235));clear HB c1 x0 x1 x2 x3 x4 x5 le;generalize w.alloc (.cells #[.int .u32 (pg:Nat),.int .i64 (r.e x).fr,.bool false,.bool (r.e x).ref,.bool (r.e x).test,.bool (r.v x)] 235)=wA at*;have ldA:=b3.lt;have lbA:=h3.hd.lt;have d2:=b3.cell (i:=2) (by omega);simp only[Array.getD,List.getElem_toArray,List.getElem_cons_zero,List.getElem_cons_succ]at d2;have B4:=Hd b3;have H4:=Hd h3;have F4:=Hd f3;clear h3 b3 f3 hh
  go_upto_region 3 with fail
  have h3:=H4.out;have b3:=B4.out;have f3:=F4.out;clear B4 H4 F4 d2 ldA lbA hh2;generalize wA=w3 at*;generalize hrr:r=r3 at h3;have hri:r3.ids=r.ids∧r3.mp=r.mp:=by rw[<-hrr];exact⟨rfl,rfl⟩
  have HRR:=Hd hrr;clear hrr;have HLV3:Hid ((mpF r3.mp (pg:Nat)).getD (.int .i64 0)=.int .i64 (lv:Nat)):=by unfold Hid;rw[hri.2];exact HLV.out
  have HXI:Hid (x∈r3.ids):=by unfold Hid;rw[hri.1];exact HX.out
  clear hri;have hb3:Blk w3 w.heap.size 6 _:=b3;have c6:w3.cell? ⟨b,6,none⟩=some (.map (some A.mb)):=h3.c 6 (by omega);have d0:=hb3.cell (i:=0) (by omega);simp only[Array.getD,List.getElem_toArray,List.getElem_cons_zero,List.getElem_cons_succ]at d0;have ld:=hb3.lt;have lb3:=h3.hd.lt;have H3:=Hd h3;have B3:=Hd hb3;have F3:=Hd f3
  have HLK:∀d,(Instr.lookup 61 (.map (some A.mb)) (.int .u32 (pg:Nat)) false).run prog (w3.drewN d)=.ok (.int .i64 (lv:Nat)) (w3.drewN d):=fun d=>by
   have:=(h3.fr0 ((Fr.refl NoF w3).drewN d)).mp.look_run MVg (x:=(pg:Nat)) hwf.out;rw[this,HLV3.out]
  clear h3 hb3 b3 f3
  go_quiet (fail)
  have g5':Fr NoF w3 (w3.drewN nq):=(Fr.refl NoF w3).drewN nq;have F5:Hid (Fr (FPr A b) w (w3.drewN nq)):=F3.out.trans g5' (fun _ q=>q.elim);have HDR:=Hd (ck_drop (H3.out.fr0 g5') (x:=x) HXI.out);clear HLK g5' c6 d0 ld lb3
  go_wp2_with fail
  refine HDR.out.mono ?_;clear HDR;rintro e w6⟨rfl,h6,f6⟩;have H6:=Hd (And.intro h6 (F5.out.trans f6 (fun i q=>.inl (q.elim .inl (fun q=>.inr (.inr (.inr (.inr q))))))));clear h6 f6;go_wp2;go_returns;exact⟨rfl,by have e:=HRR.out;subst e;rw[HR.out];exact H6.out⟩
 .have HC:Hid (r.cold x={r with hot:=r.hot-1}):=by unfold Hid Raw.cold;rw[HHOT.out];rfl
  have HR:=Hd ((HRD.out _ HC.out.symm).1 hlx);clear HRD;have hlx':((lv:Int)==(x:Int))=true:=by simp;omega
  go_enter func215,ntmps215
  go_upto_region 1 with fail
  have b3:=HB.out (.int .u32 (pg:Nat)) (.int .i64 (r.e x).fr) (.bool true) (.bool (r.e x).ref) (.bool (r.e x).test) (.bool (r.v x));have f3:Fr (FPr A b) w (w.alloc (.cells #[.int .u32 (pg:Nat),.int .i64 (r.e x).fr,.bool true,.bool (r.e x).ref,.bool (r.e x).test,.bool (r.v x)] 235)):=(Fr.refl _ w).alloc _;have h3:=H.out.fr0 ((Fr.refl NoF w).alloc (.cells #[.int .u32 (pg:Nat),.int .i64 (r.e x).fr,.bool true,.bool (r.e x).ref,.bool (r.e x).test,.bool (r.v x)] 235));clear HB c1 x0 x1 x2 x3 x4 x5 le;generalize w.alloc (.cells #[.int .u32 (pg:Nat),.int .i64 (r.e x).fr,.bool true,.bool (r.e x).ref,.bool (r.e x).test,.bool (r.v x)] 235)=wA at*;have hh1:1<=r.hot:=hh rfl;have hh3:1<=(r.hot:Int):=by omega
  have hh4:(r.hot:Int)<=70000:=by omega
  have c8:wA.cell? ⟨b,8,none⟩=some (.int .i64 (r.hot:Nat)):=h3.c 8 (by omega);have fz8:=h3.hd.frozen 8;have d2:=b3.cell (i:=2) (by omega);simp only[Array.getD,List.getElem_toArray,List.getElem_cons_zero,List.getElem_cons_succ]at d2;have ldA:=b3.lt;have lbA:=h3.hd.lt;have nb:¬w.heap.size=b:=by omega
  have b4:=b3.other (a:=⟨b,8,none⟩) nb (.int .i64 ((r.hot-1:Nat):Int));have h4:PC (wA.setCell ⟨b,8,none⟩ (.int .i64 ((r.hot-1:Nat):Int))) b n A {r with hot:=r.hot-1}:=h3.setHead (r':={r with hot:=r.hot-1}) (prH_hot _ _ _ _ _) rfl;have f4:Fr (FPr A b) w (wA.setCell ⟨b,8,none⟩ (.int .i64 ((r.hot-1:Nat):Int))):=f3.setCell (p:=⟨b,8,none⟩) (.inl (.inl rfl)) _;have e8:((r.hot-1:Nat):Int)=(r.hot:Int)-1:=by omega
  rw[e8]at b4 h4 f4;have B4:=Hd b4;have H4:=Hd h4;have F4:=Hd f4;clear b4 h4 f4 h3 b3 f3 e8 hh
  go_upto_region 3 with fail
  have h3:=H4.out;have b3:=B4.out;have f3:=F4.out;clear B4 H4 F4 fz8 d2 c8 ldA lbA hh1 hh3 hh4 hh2;generalize wA.setCell ⟨b,8,none⟩ (.int .i64 ((r.hot:Int)-1))=w3 at*;generalize hrr:({r with hot:=r.hot-1}:Raw)=r3 at*;have hri:r3.ids=r.ids∧r3.mp=r.mp:=by rw[<-hrr];exact⟨rfl,rfl⟩
  have HRR:=Hd hrr;clear hrr;have HLV3:Hid ((mpF r3.mp (pg:Nat)).getD (.int .i64 0)=.int .i64 (lv:Nat)):=by unfold Hid;rw[hri.2];exact HLV.out
  have HXI:Hid (x∈r3.ids):=by unfold Hid;rw[hri.1];exact HX.out
  clear hri;have hb3:Blk w3 w.heap.size 6 _:=b3;have c6:w3.cell? ⟨b,6,none⟩=some (.map (some A.mb)):=h3.c 6 (by omega);have d0:=hb3.cell (i:=0) (by omega);simp only[Array.getD,List.getElem_toArray,List.getElem_cons_zero,List.getElem_cons_succ]at d0;have ld:=hb3.lt;have lb3:=h3.hd.lt;have H3:=Hd h3;have B3:=Hd hb3;have F3:=Hd f3
  have HLK:∀d,(Instr.lookup 61 (.map (some A.mb)) (.int .u32 (pg:Nat)) false).run prog (w3.drewN d)=.ok (.int .i64 (lv:Nat)) (w3.drewN d):=fun d=>by
   have:=(h3.fr0 ((Fr.refl NoF w3).drewN d)).mp.look_run MVg (x:=(pg:Nat)) hwf.out;rw[this,HLV3.out]
  clear h3 hb3 b3 f3
  go_quiet (fail)
  have g5:Fr NoF w3 ((w3.drewN nq).drew):=((Fr.refl NoF w3).drewN nq).drew;have g5':Fr NoF w3 (w3.drewN nq):=(Fr.refl NoF w3).drewN nq;obtain⟨w5,r5,m5,f5⟩:=(H3.out.fr0 g5).mp.del_run MVg (x:=(pg:Nat)) hwf.out 0;have hm5:=m5;rw[show(none:Option Value)=(none:Option Nat).map fun(x:Nat)=>Value.int .i64 x from rfl,mpF_upd]at hm5;have h5:=(H3.out.fr0 g5).setMp hm5 f5;have F5:Hid (Fr (FPr A b) w w5):=(F3.out.trans g5 (fun _ q=>q.elim)).trans f5 (fun i q=>.inl (.inr (.inr (.inr (.inl q)))));have HDR:=Hd (ck_drop h5 (x:=x) HXI.out);have d6:(w3.drewN nq).cell? ⟨b,6,none⟩=some (.map (some A.mb)):=(H3.out.fr0 g5').c 6 (by omega);have d7:(w3.drewN nq).cell? ⟨w.heap.size,0,none⟩=some (.int .u32 (pg:Nat)):=(B3.out.fr g5' id).cell (i:=0) (by omega);have l6:b<(w3.drewN nq).heap.size:=(H3.out.fr0 g5').hd.lt;have l7:w.heap.size<(w3.drewN nq).heap.size:=(B3.out.fr g5' id).lt;clear HLK h5 m5 hm5 f5 g5 g5' c6 d0 ld lb3;generalize w3.drewN nq=wz at*
  go_wp2_with fail
  go_region_with (fail)
  all_goals
   go_wp2_with fail
   refine HDR.out.mono ?_;clear HDR;rintro e w6⟨rfl,h6,f6⟩;have H6:=Hd (And.intro h6 (F5.out.trans f6 (fun i q=>.inl (q.elim .inl (fun q=>.inr (.inr (.inr (.inr q))))))));clear h6 f6;go_wp2;go_returns;exact⟨rfl,by have e:=HRR.out;subst e;rw[HR.out];exact H6.out⟩
 .have HC:Hid (r.cold x={r with hot:=r.hot-1}):=by unfold Hid Raw.cold;rw[HHOT.out];rfl
  have HR:=Hd ((HRD.out _ HC.out.symm).2 hlx);clear HRD;have hlx':((lv:Int)==(x:Int))=false:=by simp;omega
  go_enter func215,ntmps215
  go_upto_region 1 with fail
  have b3:=HB.out (.int .u32 (pg:Nat)) (.int .i64 (r.e x).fr) (.bool true) (.bool (r.e x).ref) (.bool (r.e x).test) (.bool (r.v x));have f3:Fr (FPr A b) w (w.alloc (.cells #[.int .u32 (pg:Nat),.int .i64 (r.e x).fr,.bool true,.bool (r.e x).ref,.bool (r.e x).test,.bool (r.v x)] 235)):=(Fr.refl _ w).alloc _;have h3:=H.out.fr0 ((Fr.refl NoF w).alloc (.cells #[.int .u32 (pg:Nat),.int .i64 (r.e x).fr,.bool true,.bool (r.e x).ref,.bool (r.e x).test,.bool (r.v x)] 235));clear HB c1 x0 x1 x2 x3 x4 x5 le;generalize w.alloc (.cells #[.int .u32 (pg:Nat),.int .i64 (r.e x).fr,.bool true,.bool (r.e x).ref,.bool (r.e x).test,.bool (r.v x)] 235)=wA at*;have hh1:1<=r.hot:=hh rfl;have hh3:1<=(r.hot:Int):=by omega
  have hh4:(r.hot:Int)<=70000:=by omega
  have c8:wA.cell? ⟨b,8,none⟩=some (.int .i64 (r.hot:Nat)):=h3.c 8 (by omega);have fz8:=h3.hd.frozen 8;have d2:=b3.cell (i:=2) (by omega);simp only[Array.getD,List.getElem_toArray,List.getElem_cons_zero,List.getElem_cons_succ]at d2;have ldA:=b3.lt;have lbA:=h3.hd.lt;have nb:¬w.heap.size=b:=by omega
  have b4:=b3.other (a:=⟨b,8,none⟩) nb (.int .i64 ((r.hot-1:Nat):Int));have h4:PC (wA.setCell ⟨b,8,none⟩ (.int .i64 ((r.hot-1:Nat):Int))) b n A {r with hot:=r.hot-1}:=h3.setHead (r':={r with hot:=r.hot-1}) (prH_hot _ _ _ _ _) rfl;have f4:Fr (FPr A b) w (wA.setCell ⟨b,8,none⟩ (.int .i64 ((r.hot-1:Nat):Int))):=f3.setCell (p:=⟨b,8,none⟩) (.inl (.inl rfl)) _;have e8:((r.hot-1:Nat):Int)=(r.hot:Int)-1:=by omega
  rw[e8]at b4 h4 f4;have B4:=Hd b4;have H4:=Hd h4;have F4:=Hd f4;clear b4 h4 f4 h3 b3 f3 e8 hh
  go_upto_region 3 with fail
  have h3:=H4.out;have b3:=B4.out;have f3:=F4.out;clear B4 H4 F4 fz8 d2 c8 ldA lbA hh1 hh3 hh4 hh2;generalize wA.setCell ⟨b,8,none⟩ (.int .i64 ((r.hot:Int)-1))=w3 at*;generalize hrr:({r with hot:=r.hot-1}:Raw)=r3 at*;have hri:r3.ids=r.ids∧r3.mp=r.mp:=by rw[<-hrr];exact⟨rfl,rfl⟩
  have HRR:=Hd hrr;clear hrr;have HLV3:Hid ((mpF r3.mp (pg:Nat)).getD (.int .i64 0)=.int .i64 (lv:Nat)):=by unfold Hid;rw[hri.2];exact HLV.out
  have HXI:Hid (x∈r3.ids):=by unfold Hid;rw[hri.1];exact HX.out
  clear hri;have hb3:Blk w3 w.heap.size 6 _:=b3;have c6:w3.cell? ⟨b,6,none⟩=some (.map (some A.mb)):=h3.c 6 (by omega);have d0:=hb3.cell (i:=0) (by omega);simp only[Array.getD,List.getElem_toArray,List.getElem_cons_zero,List.getElem_cons_succ]at d0;have ld:=hb3.lt;have lb3:=h3.hd.lt;have H3:=Hd h3;have B3:=Hd hb3;have F3:=Hd f3
  have HLK:∀d,(Instr.lookup 61 (.map (some A.mb)) (.int .u32 (pg:Nat)) false).run prog (w3.drewN d)=.ok (.int .i64 (lv:Nat)) (w3.drewN d):=fun d=>by
   have:=(h3.fr0 ((Fr.refl NoF w3).drewN d)).mp.look_run MVg (x:=(pg:Nat)) hwf.out;rw[this,HLV3.out]
  clear h3 hb3 b3 f3
  go_quiet (fail)
  have g5':Fr NoF w3 (w3.drewN nq):=(Fr.refl NoF w3).drewN nq;have F5:Hid (Fr (FPr A b) w (w3.drewN nq)):=F3.out.trans g5' (fun _ q=>q.elim);have HDR:=Hd (ck_drop (H3.out.fr0 g5') (x:=x) HXI.out);clear HLK g5' c6 d0 ld lb3
  go_wp2_with fail
  refine HDR.out.mono ?_;clear HDR;rintro e w6⟨rfl,h6,f6⟩;have H6:=Hd (And.intro h6 (F5.out.trans f6 (fun i q=>.inl (q.elim .inl (fun q=>.inr (.inr (.inr (.inr q))))))));clear h6 f6;go_wp2;go_returns;exact⟨rfl,by have e:=HRR.out;subst e;rw[HR.out];exact H6.out⟩
end
end
end Go.Proofs.YtipopinjppjnfaaGreatDoor
