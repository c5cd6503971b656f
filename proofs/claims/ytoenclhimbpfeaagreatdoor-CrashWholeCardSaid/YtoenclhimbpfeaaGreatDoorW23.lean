/- Part 23. -/
import Derived.Test.YtoenclhimbpfeaaGreatDoorW22
namespace Go.Proofs.YtoenclhimbpfeaaGreatDoor
set_option linter.all false
set_option maxHeartbeats 16000000
set_option maxRecDepth 100000
section
open Go.Maps Go.Proofs.Tryz Go.RowKit
section
variable{w w':World}{b n m:Nat}{A:AP}{r:Raw}{s:PrS}{i x f:Nat}{y:En}
theorem wrap_small{z:Int}(h1: -1000000<=z)(h2:z<=1000000):IntKind.i64.wrap z=z:=IntWalk.i64_in _ ⟨by omega,by omega⟩
theorem vO(h:PA n b A w s)(hk:PK n m s)(hn:n<=65535):Calls prog 244 #[.pointer (some ⟨b,0,none⟩)] w λe w'=>e=.returned (.tuple #[])/\PA n b A w' (s.cool n)/\Fr (FPr A b) w w':=by
 have hk0:=(nS (n:=n) hk).1;have H:=Hd h;have HK:=Hd hk;have HK0:=Hd hk0;clear h hk hk0;generalize s.cool n=fin at*;generalize s.hotN+1=k0 at*;go_enter func244,ntmps244
 go_wp2_with fail
 go_loopg [] k0 (λg wr=>∃st,PA n b A wr st/\PK n m st/\coolO n g st=some fin/\Fr (FPr A b) w wr)
 case atStart=>exact⟨s,H.out,HK.out,HK0.out,Fr.refl _ _⟩
 case round=>
  obtain⟨st,h1,hk1,ho,f1⟩:=hrel;obtain⟨r,hc,hr⟩:=h1;clear H HK HK0;have c8:wr.cell? ⟨b,8,none⟩=some (.int .i64 (r.hot:Nat)):=hc.c 8 (by omega);have c7:wr.cell? ⟨b,7,none⟩=some (.int .i64 (r.goal:Nat)):=hc.c 7 (by omega);have c5:wr.cell? ⟨b,5,none⟩=some (.slice (some ⟨A.fb,0,none⟩) n n):=hc.c 5 (by omega);have lb:=hc.hd.lt;have hht:=hr.hot_le;have hgl:=hk1.gl;have hgo:=hr.goal;have h1n:=hk1.n1;have F1:=Hd f1;have hw:=wrap_small (z:=(n:Int)-(r.goal:Int)) (by omega) (by omega);by_cases hz:st.hotN<=n-st.goal
  .have hfin:fin=st:=by
    cases gk with
    |zero=>cases ho
    |succ g=>unfold coolO at ho;rw[if_pos hz]at ho;simpa using ho.symm
   have hlt:(r.hot:Int)<=(n:Int)-(r.goal:Int):=by have:=hr.hot;omega
   have KEY:Hid (PA n b A wr fin/\Fr (FPr A b) w wr):=⟨by rw[hfin];exact⟨r,hc,hr⟩,f1⟩;clear hz hfin hc hr hk1 ho f1 F1 hgl hgo h1n
   go_wp2_with fail
   go_quiet (fail)
   go_wp2;go_returns;exact⟨rfl,KEY.out.1.fr0 (by repeat(first|exact Fr.refl NoF _|apply Fr.drew|apply Fr.drewN)),KEY.out.2.trans (G:=NoF) (by repeat(first|exact Fr.refl NoF _|apply Fr.drew|apply Fr.drewN)) (λ_ q=>q.elim)⟩
  .obtain⟨g',eg,st2⟩:∃g',gk=g'+1/\coolO n g' st.work=some fin:=by
    cases gk with
    |zero=>cases ho
    |succ g=>unfold coolO at ho;rw[if_neg hz]at ho;exact⟨g,rfl,ho⟩
   have hgk:=Hd eg;have S2:=Hd st2;have hlt:(n:Int)-(r.goal:Int)<(r.hot:Int):=by have:=hr.hot;omega
   have hne:¬st.hotN=0:=by omega
   obtain⟨j,hj⟩:=jo hk1 hne;have PK2:=Hd (gY hk1 hj).1;have HW:Hid (∀W,Fr NoF wr W->Calls prog 255 #[.pointer (some ⟨b,0,none⟩)] W λe w'=>e=.returned (.tuple #[])/\PA n b A w' st.work/\Fr (FPr A b) W w'):=λW g=>sI (⟨r,hc.fr0 g,hr⟩:PA n b A W st) hk1 hne hn
   clear hz hc hr hk1 ho f1 eg st2 hne hj hgl hgo h1n
   go_wp2_with fail
   go_quiet (fail)
   go_wp2_with fail
   refine(HW.out _ (by repeat(first|exact Fr.refl NoF _|apply Fr.drew|apply Fr.drewN))).mono ?_;clear HW;rintro e w3⟨rfl,h3,f3⟩;have H3:=Hd h3;have F3:Hid (Fr (FPr A b) w w3):=(F1.out.trans (G:=NoF) (by repeat(first|exact Fr.refl NoF _|apply Fr.drew|apply Fr.drewN)) (λ_ q=>q.elim)).trans f3 (λi q=>.inl q);clear h3 f3;go_wp2
   go_roundg g'
   case measure=>have:=hgk.out;omega
   case rel=>exact⟨_,H3.out,PK2.out,S2.out,F3.out⟩
theorem MpV.len_run{k:TypeId}{e t:TypeId}{kq:IntKind}{z0:Value}{c:Nat}{mf:Int->Option Value}{mb:Nat}(M:MV prog t k e kq z0)(h:MpV prog k kq z0 w mb c mf)(ty:TypeId):(Builtin.len_ #[t] ty #[.map (some mb)]).run prog w=.ok (.int .i64 c) w:=by
 obtain⟨D,h1,h2,h3⟩:=h;rw[h1.len M.ut ty,h2]
theorem vY{g:Nat}{st fin:PrS}(h:br n g st=some fin)(h0:n<st.gone)(hy:st.L[st.hd 2]?=some y):∃g',g=g'+1/\br n g' (bf st y)=some fin:=by
 cases g with
 |zero=>cases h
 |succ g=>
  unfold br at h;rw[if_neg (by omega),hy]at h;exact⟨g,rfl,h⟩
theorem nz{g:Nat}{st fin:PrS}(h:br n g st=some fin)(h0:st.gone<=n):fin=st:=by
 cases g with
 |zero=>cases h
 |succ g=>unfold br at h;rw[if_pos h0]at h;simpa using h.symm
theorem qV(h:PA n b A w s)(hk:PK n (n+1) s)(h0:n<s.gone)(hn:n<=65535):Calls prog 260 #[.pointer (some ⟨b,0,none⟩)] w λe w'=>e=.returned (.tuple #[])/\PA n b A w' (s.tests n)/\Fr (FPr A b) w w':=by
 obtain⟨⟨k0,hk0⟩,_,_⟩:=kV hk;have H:=Hd h;have HK:=Hd hk;have HK0:=Hd hk0;have HG0:=Hd h0;clear h hk h0 hk0;generalize s.tests n=fin at*;go_enter func260,ntmps260
 go_wp2_with fail
 go_loopg [] k0 (λg wr=>∃st,PA n b A wr st/\PK n (n+1) st/\n<st.gone/\br n g st=some fin/\Fr (FPr A b) w wr)
 case atStart=>exact⟨s,H.out,HK.out,HG0.out,HK0.out,Fr.refl _ _⟩
 case round=>
  obtain⟨st,h1,hk1,hgn,ho,f1⟩:=hrel;obtain⟨r,hc,hr⟩:=h1;clear H HK HK0 HG0;have F1:=Hd f1;obtain⟨y,hy⟩:=hk1.at (iD (by omega)) (j:=2) (by omega);have hlen:0<st.L.length:=iD (by omega);obtain⟨hxm,hx,ex⟩:=hr.rl.at (j:=2) (by omega) hy;obtain⟨g',eg,st2⟩:=vY ho hgn hy;have hgk:=Hd eg;obtain⟨q1,q2,q3,q4⟩:=hk1.el y (aB hy);obtain⟨pk2,kp2⟩:=dI hk1 hy;have c6:wr.cell? ⟨b,6,none⟩=some (.map (some A.mb)):=hc.c 6 (by omega);have c1:wr.cell? ⟨b,1,none⟩=some (.slice (some ⟨A.eb,0,none⟩) (2*n) (2*n)):=hc.c 1 (by omega);have c4:wr.cell? ⟨b,4,none⟩=some (.int .i64 (r.h 2:Nat)):=hc.hand (j:=2) (by omega);have hlr:=MpV.len_run MVg hc.mp 3;have hmp:(0:Int)<(r.mc:Int):=by have:=hr.mc;omega
  have hx2:=hc.lists.2.2.1 _ hxm;obtain⟨_,x1,x2,x3,x4,_⟩:=hc.ce hx2;rw[ex]at x1 x2 x3 x4;have lb:=hc.hd.lt;have le:=hc.en.lt;have g0:(0:Int)<=(r.h 2:Int):=by omega
  have g1:(r.h 2:Int)<2*(n:Int):=by omega
  have HC:=Hd hc;have HR:=Hd hr;have HXX:=Hd hx;have HEX:=Hd ex;have HPK1:=Hd hk1;have HGN:=Hd hgn;have HYY:=Hd hy;clear hc hr hx ex hk1 ho f1 eg hxm hgn hy;unfold bf at st2 pk2;by_cases ht:y.test=true
  .rw[if_pos ht]at st2 pk2
   rw[ht]at x4;have HF0:=uJ HC.out HR.out HPK1.out HXX.out hn;rw[HEX.out]at HF0;by_cases hg:y.fr<0
   .rw[if_pos hg]at st2 pk2
    rw[show decide (y.fr<0)=true from by simpa using hg]at HF0;have HF:=Hd HF0
    have hgone:(st.ends (st.hd 2) y).gone<=n:=by
     have e1:st.ends (st.hd 2) y=st.less.drop (st.hd 2):=by unfold PrS.ends;rw[if_pos hg]
     have e2:=cV (s:=st.less) (i:=st.hd 2) (x:=y) HYY.out;rw[if_pos hg]at e2;have e3:st.less.gone=st.gone:=rfl;have:=HPK1.out.ng;rw[e1];omega
    have S2:=Hd (nz st2 hgone);clear HF0 st2 pk2 ht hg q3 q4 HC HR HXX HEX HPK1 kp2 q1 HGN HYY hgone
    go_wp2_with fail
    refine HF.out.mono ?_;clear HF;rintro e w2⟨rfl,h2,f2⟩;have KEY:Hid (PA n b A w2 fin/\Fr (FPr A b) w w2):=⟨by rw[S2.out];exact h2,F1.out.trans f2 (λi q=>.inl q)⟩;clear h2 f2 hlr;go_wp2;go_returns;exact⟨rfl,KEY.out⟩
   .rw[if_neg hg]at st2 pk2
    rw[show decide (y.fr<0)=false from by simpa using hg]at HF0;have HF:=Hd HF0;have S2:=Hd st2;have PK2:=Hd pk2;have hl2:0<(st.ends (st.hd 2) y).L.length:=by unfold PrS.ends;rw[if_neg hg];show 0<(st.L.set _ _).length;rw[List.length_set];exact hlen
    have GN2:Hid (n<((st.ends (st.hd 2) y).mv 2).gone):=by
     have e1:st.ends (st.hd 2) y=st.less.put (st.hd 2) {y with test:=false}:=by unfold PrS.ends;rw[if_neg hg]
     have e2:=dR (s:=st.less) (i:=st.hd 2) (x:=y) (y:={y with test:=false}) HYY.out rfl;have e3:st.less.gone=st.gone:=rfl;have e4:((st.ends (st.hd 2) y).mv 2).gone=(st.ends (st.hd 2) y).gone:=rfl;have:=HGN.out;unfold Hid;rw[e4,e1];omega
    clear HF0 st2 pk2 ht hg q3 q4 HC HR HXX HEX HPK1 kp2 q1 HGN HYY
    go_wp2_with fail
    refine HF.out.mono ?_;clear HF;rintro e w2⟨rfl,h2,f2⟩;have HM:=Hd (eC (j:=2) h2 hl2 (by omega));have F2:=Hd (F1.out.trans f2 (λi q=>.inl q));clear h2 f2 hlr
    go_wp2_with fail
    refine HM.out.mono ?_;clear HM;rintro e w3⟨rfl,h3,f3⟩;have H3:=Hd h3;have F3:=Hd (F2.out.trans f3 (λi q=>.inl q));clear h3 f3;go_wp2
    go_roundg g'
    case measure=>have:=hgk.out;omega
    case rel=>exact⟨_,H3.out,PK2.out,GN2.out,S2.out,F3.out⟩
  .have ht:y.test=false:=by simpa using ht
   rw[if_neg (by simp[ht])]at st2 pk2;rw[ht]at x4;have S2:=Hd st2;have PK2:=Hd pk2;have HM:=Hd (eC (j:=2) (⟨r,HC.out,HR.out⟩:PA n b A wr st) hlen (by omega));clear st2 pk2 ht q3 q4 HC HR HXX HEX HPK1 kp2 q1 HYY
   go_wp2_with fail
   refine HM.out.mono ?_;clear HM;rintro e w3⟨rfl,h3,f3⟩;have H3:=Hd h3;have F3:=Hd (F1.out.trans f3 (λi q=>.inl q));clear h3 f3 hlr;go_wp2
   go_roundg g'
   case measure=>have:=hgk.out;omega
   case rel=>exact⟨_,H3.out,PK2.out,HGN.out,S2.out,F3.out⟩
end
section
variable{w w':World}{b n m:Nat}{A:AP}{r:Raw}{s:PrS}{i x f:Nat}{y:En}
theorem qT{α:Type}(c:Nat->α)(i:Nat)(u v:α):upd (upd c i u) i v=upd c i v:=by
 funext j
 by_cases e:j=i
 .subst e;rw[upd_same,upd_same]
 .rw[aa _ _ e,aa _ _ e,aa _ _ e]
theorem Dr(h1:PC w b n A r)(h2:Rf n r s)(hk:PK n m s)(hx:r.ids[s.hd 1]?=some x)(hf:0<=(r.e x).fr)(hh:(r.e x).hot=false)(hn:n<=65535):
  Calls prog 251 #[.pointer (some ⟨b,0,none⟩),.int .i64 x] w λe w'=>e=.returned (.tuple #[])/\PA n b A w' (s.turn n (s.hd 1) (r.e x))/\Fr (FPr A b) w w':=by
 have hi:=h2.get hx;have hxm:=List.mem_of_getElem? hx;have hx2:=h1.lists.2.2.1 x hxm;have hns:=h1.lists.2.2.2.2 x hxm;have hht:=h2.hot_le;obtain⟨pk1,kp1⟩:=rk hk hi hf;have emv:(s.mv 1).drop (s.hd 1)=s.drop (s.hd 1):=vx (aX hi);have c1:w.cell? ⟨b,1,none⟩=some (.slice (some ⟨A.eb,0,none⟩) (2*n) (2*n)):=h1.c 1 (by omega);have c8:w.cell? ⟨b,8,none⟩=some (.int .i64 (r.hot:Nat)):=h1.c 8 (by omega);obtain⟨_,x1,x2,x3,x4,_⟩:=h1.ce hx2;have fe:=λi=>h1.en.frozen i
 have fb8:=h1.hd.frozen 8;have lb:=h1.hd.lt;have le:=h1.en.lt;obtain⟨n1,_,_,_,_,_,_⟩:=h1.lb.ne;have n1':¬b=A.eb:=λe=>n1 e.symm
 have g0:(0:Int)<=(x:Int):=by omega
 have g1:(x:Int)<2*(n:Int):=by omega
 have g3:(r.hot:Int)<=140000:=by omega
 have hp3:∀t:Bool,(r.e x).test=t->PC (((w.setCell ⟨A.eb,x*6+3,none⟩ (.bool false)).setCell ⟨A.eb,x*6+2,none⟩ (.bool t)).setCell ⟨A.eb,x*6+4,none⟩ (.bool (!t))) b n A {r with e:=upd r.e x (r.e x).turn}:=by
  intro t et;have a1:=h1.setEn (r':={r with e:=upd r.e x {r.e x with ref:=false}}) (sL r.e r.v x false) rfl
  have a2:=a1.setEn (i:=x*6+2) (u:=.bool t) (r':={r with e:=upd r.e x {r.e x with ref:=false,hot:=t}}) (by
   have:=yy (upd r.e x {r.e x with ref:=false}) r.v x t;rw[upd_same,qT]at this;exact this) rfl
  have a3:=a2.setEn (i:=x*6+4) (u:=.bool (!t)) (r':={r with e:=upd r.e x {r.e x with ref:=false,hot:=t,test:=!t}}) (by
   have:=vD (upd r.e x {r.e x with ref:=false,hot:=t}) r.v x (!t);rw[upd_same,qT]at this;exact this) rfl
  have:(r.e x).turn={r.e x with ref:=false,hot:=t,test:=!t}:=by unfold En.turn;rw[et]
  rw[this];exact a3
 have hf3:∀t:Bool,Fr (FPr A b) w (((w.setCell ⟨A.eb,x*6+3,none⟩ (.bool false)).setCell ⟨A.eb,x*6+2,none⟩ (.bool t)).setCell ⟨A.eb,x*6+4,none⟩ (.bool (!t))):=λt=>
  (((Fr.refl (FPr A b) w).setCell (p:=⟨A.eb,x*6+3,none⟩) (.inl (.inr (.inl rfl))) _).setCell (p:=⟨A.eb,x*6+2,none⟩) (.inl (.inr (.inl rfl))) _).setCell (p:=⟨A.eb,x*6+4,none⟩) (.inl (.inr (.inl rfl))) _
 have HREST:Hid (∀(z:Nat) W,z+(if(r.e x).hot=true then 1 else 0)=r.hot+(if(r.e x).test=true then 1 else 0)->PC W b n A {r with e:=upd r.e x (r.e x).turn,hot:=z}->Fr (FPr A b) w W->
   Calls prog 258 #[.pointer (some ⟨b,0,none⟩),.int .i64 x] W λe w'=>e=.returned (.tuple #[])/\PA n b A w' (((s.mv 1).drop (s.hd 1)).lay (r.e x).turn)/\Fr (FPr A b) w w'):=λz W hz hW fW=>by
  have hl:=h2.rl.put hx (r.e x).turn;have hrl:=RL.leave (r:={r with e:=upd r.e x (r.e x).turn,hot:=z}) (s:=s.put (s.hd 1) (r.e x).turn) hl hx;refine(Ae hW hxm ?_).mono λe w' ⟨b1,b2,b3⟩=>⟨b1,⟨_,b2,by rw[emv];exact h2.turn hx hns hz⟩,fW.trans b3 (λi q=>.inl (q.elim .inl (λq=>.inr (.inr (.inr (.inr q))))))⟩
  rcases hrl.hd with q|q
  .exact .inl q
  .exact .inr (List.mem_of_getElem? (q 0 (by omega)))
 have HCOOL:Hid (∀W,PA n b A W (((s.mv 1).drop (s.hd 1)).lay (r.e x).turn)->Calls prog 244 #[.pointer (some ⟨b,0,none⟩)] W λe w'=>e=.returned (.tuple #[])/\PA n b A w' (s.turn n (s.hd 1) (r.e x))/\Fr (FPr A b) W w'):=λW hW=>vO hW pk1 hn
 generalize ht:(r.e x).test=t at*
 cases t
 .have HZ:=Hd (HREST.out r.hot _ (by simp[hh]) (hp3 false rfl) (hf3 false))
  clear hp3 hf3 HREST h1 h2 hk hx hi hxm hns pk1 kp1 emv hf;rw[hh]at x2;clear hh ht;go_enter func251,ntmps251
  go_wp2_with fail
  refine HZ.out.mono ?_;clear HZ;rintro e w2⟨rfl,h3,f3⟩;have HC2:=Hd (HCOOL.out _ h3);have F3:=Hd f3;clear h3 f3 HCOOL c1 c8 x1 x2 x3 x4 fe
  go_wp2_with fail
  refine HC2.out.mono ?_;clear HC2;rintro e w4⟨rfl,h4,f4⟩;have KEY:=Hd (And.intro h4 (F3.out.trans f4 (λi q=>.inl q)));clear h4 f4;go_wp2;go_returns;exact⟨rfl,KEY.out⟩
 .have a4:=(hp3 true rfl).setHead (i:=8) (u:=.int .i64 ((r.hot+1:Nat):Int)) (r':={r with e:=upd r.e x (r.e x).turn,hot:=r.hot+1}) (j6 _ _ _ _ _) rfl
  have f4:=(hf3 true).setCell (p:=⟨b,8,none⟩) (.inl (.inl rfl)) (.int .i64 ((r.hot+1:Nat):Int));have e8:((r.hot+1:Nat):Int)=(r.hot:Int)+1:=by omega
  rw[e8]at a4 f4;have HZ:=Hd (HREST.out (r.hot+1) _ (by simp[hh]) a4 f4);clear hp3 hf3 HREST h1 h2 hk hx hi hxm hns pk1 kp1 emv hf a4 f4 e8;rw[hh]at x2;clear hh ht;go_enter func251,ntmps251
  go_wp2_with fail
  refine HZ.out.mono ?_;clear HZ;rintro e w2⟨rfl,h3,f3⟩;have HC2:=Hd (HCOOL.out _ h3);have F3:=Hd f3;clear h3 f3 HCOOL c1 c8 x1 x2 x3 x4 fe
  go_wp2_with fail
  refine HC2.out.mono ?_;clear HC2;rintro e w4⟨rfl,h4,f4⟩;have KEY:=Hd (And.intro h4 (F3.out.trans f4 (λi q=>.inl q)));clear h4 f4;go_wp2;go_returns;exact⟨rfl,KEY.out⟩
theorem pz(h:PC w b n A r)(hx2:x<2*n)(hu:(r.e x).pg<4294967296)(hno:r.mp ((r.e x).pg:Nat)=none)(hc:r.mc<=200000):
  Calls prog 259 #[.pointer (some ⟨b,0,none⟩),.int .i64 x] w λe w'=>e=.returned (.tuple #[])/\PC w' b n A (r.told x)/\Fr (FPr A b) w w':=by
 have c1:w.cell? ⟨b,1,none⟩=some (.slice (some ⟨A.eb,0,none⟩) (2*n) (2*n)):=h.c 1 (by omega);have c6:w.cell? ⟨b,6,none⟩=some (.map (some A.mb)):=h.c 6 (by omega);obtain⟨x0,_,_,_,_,_⟩:=h.ce hx2;have hwf:=wfU hu;have hlk:=h.mp.look_ok_run MVg (x:=((r.e x).pg:Nat)) hwf;have hmpn:mpF r.mp ((r.e x).pg:Nat)=none:=by unfold mpF;rw[hno];rfl
 rw[hmpn]at hlk;simp only[Option.getD_none,Option.isSome_none]at hlk;obtain⟨w2,hrun,m1,f1⟩:=h.mp.put_run MVg (by omega) (x:=((r.e x).pg:Nat)) hwf (.int .i64 (x:Nat));rw[hmpn]at m1;simp only[Option.isSome_none,Bool.false_eq_true,if_false]at m1;rw[show some (Value.int .i64 (x:Nat))=(some x).map λ(x:Nat)=>Value.int .i64 (x:Nat)from rfl,t8]at m1;have KEY:Hid (PC w2 b n A (r.told x)/\Fr (FPr A b) w w2):=⟨h.setMp m1 f1,f1.mono (λi q=>.inr (.inr (.inr (.inl q))))⟩;have g0:(0:Int)<=(x:Int):=by omega
 have g1:(x:Int)<2*(n:Int):=by omega
 have lb:=h.hd.lt;have le:=h.en.lt;clear h hmpn m1 f1 hno hu;go_enter func259,ntmps259;go_wp2;go_returns;exact⟨rfl,KEY.out⟩
end
section
variable{w w':World}{b n m:Nat}{A:AP}{r:Raw}{s:PrS}{i x f:Nat}{y:En}
theorem jH(h:s.gone<=n):s.tests n=s:=by
 have hex:∃p:Nat×PrS,br n p.1 s=some p.2:=⟨(1,s),by rw[br,if_pos h]⟩;have:s.tests n=hex.choose.2:=by unfold PrS.tests;rw[dif_pos hex]
 rw[this];exact nz hex.choose_spec h
theorem Cd(s:PrS)(i f:Nat)(y:En):((s.mv 1).empty f).put i y=((s.empty f).put i y).mv 1:=by
 unfold PrS.mv PrS.empty PrS.put;simp only[List.length_set]
theorem Cr(h1:PC w b n A r)(h2:Rf n r s)(hk:PK n n s)(hm:PM n s)(hx:r.ids[s.hd 1]?=some x)(hf:(r.e x).fr=(f:Int))(hrf:(r.e x).ref=false)(hn:n<=65535):
  Calls prog 252 #[.pointer (some ⟨b,0,none⟩),.int .i64 x] w λe w'=>e=.returned (.int .i64 f)/\PA n b A w' (s.send n (s.hd 1) (r.e x))/\Fr (FPr A b) w w':=by
 have hi:=h2.get hx;have hxm:=List.mem_of_getElem? hx;have hx2:=h1.lists.2.2.1 x hxm;obtain⟨q1,q2,_,_⟩:=hk.el _ (aB hi);have hfn:f<n:=by omega
 have hto:(r.e x).fr.toNat=f:=by omega
 have emv:(s.mv 1).drop (s.hd 1)=s.drop (s.hd 1):=vx (aX hi);have c1:w.cell? ⟨b,1,none⟩=some (.slice (some ⟨A.eb,0,none⟩) (2*n) (2*n)):=h1.c 1 (by omega);obtain⟨_,x1,_,_,x4,_⟩:=h1.ce hx2;rw[hf]at x1;have lb:=h1.hd.lt;have le:=h1.en.lt;have g0:(0:Int)<=(x:Int):=by omega
 have g1:(x:Int)<2*(n:Int):=by omega
 by_cases ht:(r.e x).test=true
 .obtain⟨sp1,sp2⟩:=qM hk hm hi (by omega) hrf ht
  rw[hto]at sp1 sp2;have hS:s.send n (s.hd 1) (r.e x)=(((s.mv 1).empty f).put (s.hd 1) {r.e x with fr:= -1}).tests n:=by unfold PrS.send;rw[if_pos ht,hto]
  rw[hS];have hlv:=(h2.leaves hk hx hf).move 1;rw[<-Cd]at hlv;have hno:=h2.mp_none hk hx (by omega);obtain⟨a1,a2,a3,a4,a5⟩:=hQ (r:=r) x false;obtain⟨b1,b2,b3,b4⟩:=iC (r:=r) x false;have HE:=Hd (qU h1 hfn (h2.fm2 f hfn x hxm hf) hx2 (λq=>h2.size_pos hxm q) (by have:=h2.size_le;omega))
  have hhd:(r.empty f x).h 1∈(r.empty f x).ids:=by
   show(r.setV x false).h 1∈(r.setV x false).ids
   rw[a3,a4];have:=h2.rl.hands (j:=1) (by omega) (λc=>by rw[c]at hx;cases hx);exact List.mem_of_getElem? this
  have HM:Hid (∀W,PC W b n A (r.empty f x)->Calls prog 253 #[.pointer (some ⟨b,0,none⟩),.int .i64 1] W λe w'=>e=.returned (.tuple #[])/\PC w' b n A ((r.empty f x).move 1)/\Fr (λi=>i=b) W w'):=λW hW=>pj (j:=1) hW (by omega) hhd
  have HR:Hid (∀W,PC W b n A ((r.empty f x).move 1)->Calls prog 259 #[.pointer (some ⟨b,0,none⟩),.int .i64 x] W λe w'=>e=.returned (.tuple #[])/\PC w' b n A (((r.empty f x).told x).move 1)/\Fr (FPr A b) W w'):=λW hW=>by
   have ee:((r.empty f x).move 1).e x={r.e x with fr:= -1}:=by show upd r.e x _ x=_;rw[upd_same]
   exact pz hW hx2 (by rw[ee];exact q2.2) (by rw[ee];show(r.setV x false).mp _=none;rw[a5];exact hno) (by
    show(r.setV x false).mc<=_
    rw[b4,h2.mc];have:=List.countP_le_length (p:=λe:En=>decide (e.fr<0)) (l:=s.L);have:=h2.len;have:=h2.tot;unfold PrS.gone;omega)
  have HLV:=Hd hlv;have SP1:=Hd sp1;rw[ht]at x4;clear hi hxm q1 q2 hto emv sp1 sp2 hS hlv hno a1 a2 a3 a4 a5 b1 b2 b3 b4 hhd hk hm hx hf hrf ht h1 h2;generalize((s.mv 1).empty f).put (s.hd 1) {r.e x with fr:= -1}=s1 at*;generalize((r.empty f x).told x).move 1=r1 at*;go_enter func252,ntmps252
  go_wp2_with fail
  refine HE.out.mono ?_;clear HE c1 x1 x4;rintro e w1⟨rfl,h3,f3⟩;have HM1:=Hd (HM.out _ h3);have F3:=Hd f3;clear h3 f3 HM
  go_wp2_with fail
  refine HM1.out.mono ?_;clear HM1;rintro e w2⟨rfl,h4,f4⟩;have HR1:=Hd (HR.out _ h4);have F4:=Hd (F3.out.trans f4 (λi q=>.inl (.inl q)));clear h4 f4 HR F3
  go_wp2_with fail
  refine HR1.out.mono ?_;clear HR1;rintro e w3⟨rfl,h5,f5⟩;have HA:Hid (PA n b A w3 s1):=⟨r1,h5,HLV.out⟩;have F5:=Hd (F4.out.trans f5 (λi q=>.inl q));clear h5 f5 HLV F4
  go_wp2_with fail
  go_loopg [] 1 (λg wr=>∃st,PA n b A wr st/\PK n (n+1) st/\st.tests n=s1.tests n/\(g=0->st.gone<=n)/\Fr (FPr A b) w wr)
  case atStart=>exact⟨s1,HA.out,SP1.out,rfl,λq=>by omega,F5.out⟩
  case round=>
   obtain⟨st,h6,hk6,e6,z6,f6⟩:=hrel;obtain⟨r6,hc,hr⟩:=h6;clear HA F5 SP1;have F6:=Hd f6;have c6:wr.cell? ⟨b,6,none⟩=some (.map (some A.mb)):=hc.c 6 (by omega);have c5:wr.cell? ⟨b,5,none⟩=some (.slice (some ⟨A.fb,0,none⟩) n n):=hc.c 5 (by omega);have hlr:∀d,(Builtin.len_ #[111] 3 #[.map (some A.mb)]).run prog (wr.drewN d)=.ok (.int .i64 r6.mc) (wr.drewN d):=λd=>MpV.len_run MVg (hc.fr0 ((Fr.refl NoF wr).drewN d)).mp 3
   have lb:=hc.hd.lt;by_cases hz:st.gone<=n
   .have hle:(r6.mc:Int)<=(n:Int):=by have:=hr.mc;omega
    have KEY:Hid (PA n b A wr (s1.tests n)/\Fr (FPr A b) w wr):=⟨by rw[<-e6,jH hz];exact⟨r6,hc,hr⟩,f6⟩;clear hz hc hr hk6 e6 z6 f6 F6
    go_wp2_with fail
    go_quiet (fail)
    go_wp2;go_returns;exact⟨rfl,KEY.out.1.fr0 (by repeat(first|exact Fr.refl NoF _|apply Fr.drew|apply Fr.drewN)),KEY.out.2.trans (G:=NoF) (by repeat(first|exact Fr.refl NoF _|apply Fr.drew|apply Fr.drewN)) (λ_ q=>q.elim)⟩
   .have hle:(n:Int)<(r6.mc:Int):=by have:=hr.mc;omega
    have hgk:0<gk:=by
     rcases Nat.eq_zero_or_pos gk with q|q
     .exact(hz (z6 q)).elim
     .exact q
    obtain⟨_,t1,t2⟩:=kV hk6;have PK2:Hid (PK n (n+1) (st.tests n)):=t1.le (by have:=t1.ng;omega);have E2:Hid ((st.tests n).tests n=s1.tests n):=by unfold Hid;rw[jH t1.ng];exact e6
    have G2:=Hd t1.ng;have HW:Hid (∀W,Fr NoF wr W->Calls prog 260 #[.pointer (some ⟨b,0,none⟩)] W λe w'=>e=.returned (.tuple #[])/\PA n b A w' (st.tests n)/\Fr (FPr A b) W w'):=λW g=>qV (⟨r6,hc.fr0 g,hr⟩:PA n b A W st) hk6 (by omega) hn
    clear hz hc hr hk6 e6 z6 f6 t1 t2
    go_wp2_with fail
    go_quiet (fail)
    clear hlr
    go_wp2_with fail
    refine(HW.out _ (by repeat(first|exact Fr.refl NoF _|apply Fr.drew|apply Fr.drewN))).mono ?_;clear HW;rintro e w7⟨rfl,h7,f7⟩;have H7:=Hd h7;have F7:Hid (Fr (FPr A b) w w7):=(F6.out.trans (G:=NoF) (by repeat(first|exact Fr.refl NoF _|apply Fr.drew|apply Fr.drewN)) (λ_ q=>q.elim)).trans f7 (λi q=>.inl q);clear h7 f7;go_wp2
    go_roundg 0
    case measure=>omega
    case rel=>exact⟨_,H7.out,PK2.out,E2.out,λ_=>G2.out,F7.out⟩
 .have hS:s.send n (s.hd 1) (r.e x)=(s.empty f).drop (s.hd 1):=by
   have e1:s.send n (s.hd 1) (r.e x)=((s.mv 1).empty f).drop (s.hd 1):=by unfold PrS.send;rw[if_neg ht,hto]
   have e2:((s.mv 1).empty f).drop (s.hd 1)=((s.mv 1).drop (s.hd 1)).empty f:=rfl;rw[e1,e2,emv];rfl
  rw[hS];have ht:(r.e x).test=false:=by simpa using ht
  rw[ht]at x4;have HR:=Hd (jh (⟨r,h1,h2⟩:PA n b A w s) hk hi hf hn);clear hi hxm q1 q2 hto emv hS hk hm hx hf hrf ht h1 h2;go_enter func252,ntmps252
  go_wp2_with fail
  refine HR.out.mono ?_;clear HR;rintro e w1⟨rfl,h3,f3⟩;have KEY:=Hd (And.intro h3 f3);clear h3 f3;go_wp2;go_returns;exact⟨rfl,KEY.out⟩
theorem vK{j k:Nat}(hj:s.hd j<s.L.length)(hk:k<s.L.length):(s.rot j)[k]?=s.L[(s.hd j+k)%s.L.length]?:=by
 unfold PrS.rot;by_cases e:s.hd j+k<s.L.length
 .rw[Nat.mod_eq_of_lt e,List.getElem?_append_left (by rw[List.length_drop];omega),List.getElem?_drop]
 .rw[List.getElem?_append_right (by rw[List.length_drop];omega),List.length_drop,List.getElem?_take,if_pos (by omega)]
  congr 1
  rw[Nat.mod_eq_sub_mod (by omega),Nat.mod_eq_of_lt (by omega)];omega
theorem BK(h:PA n b A w s)(hk:PK n m s)(hm:PM n s)(hz:¬s.sizeN n=0):Calls prog 254 #[.pointer (some ⟨b,0,none⟩)] w λe w'=>e=.returned (.int .i64 s.first)/\∃d,w.drewN d=w':=by
 obtain⟨r,h1,h2⟩:=h;obtain⟨e0,he0,hfind,hfirst,hf0,_,_,_⟩:=iz hk hm hz;have hlen:0<s.L.length:=List.length_pos_of_mem he0;have hd1:=hk.lt hlen (j:=1) (by omega);obtain⟨hgo,xs1,ys1,hrot,has⟩:=List.find?_eq_some_iff_append.1 hfind;have hrl:(s.rot 1).length=s.L.length:=by unfold PrS.rot;rw[List.length_append,List.length_drop,List.length_take];omega
 have hal:xs1.length<s.L.length:=by rw[<-hrl,hrot];simp
 have hle:=h2.len;have hne:¬r.ids=[]:=λc=>by rw[c]at hle;simp at hle;rw[hle]at hlen;simp at hlen
 have HAT:Hid (∀k,k<=xs1.length->∃x,r.ids[(s.hd 1+k)%s.L.length]?=some x/\x<2*n/\x∈r.ids/\r.v x=(decide (k=xs1.length))/\(k=xs1.length->(r.e x).fr=(s.first:Int))):=by
  intro k hka;have hlt:(s.hd 1+k)%s.L.length<r.ids.length:=by rw[<-hle];exact Nat.mod_lt _ hlen
  refine⟨r.ids[(s.hd 1+k)%s.L.length],List.getElem?_eq_getElem hlt,h1.lists.2.2.1 _ (List.getElem_mem hlt),List.getElem_mem hlt,?_,?_⟩
  .have hg:=h2.get (List.getElem?_eq_getElem hlt)
   rw[<-vK hd1 (by omega),hrot]at hg;rw[h2.v _ (List.getElem_mem hlt)];by_cases c:k=xs1.length
   .subst c
    rw[List.getElem?_append_right (Nat.le_refl _),Nat.sub_self]at hg;simp only[List.getElem?_cons_zero,Option.some.injEq]at hg;rw[<-hg,hgo];simp
   .rw[List.getElem?_append_left (by omega)]at hg
    have:=has _ (List.mem_of_getElem? hg);simp only[Bool.not_eq_true']at this;rw[this];simp[c]
  .rintro rfl
   have hg:=h2.get (List.getElem?_eq_getElem hlt);rw[<-vK hd1 (by omega),hrot,List.getElem?_append_right (Nat.le_refl _),Nat.sub_self]at hg;simp only[List.getElem?_cons_zero,Option.some.injEq]at hg;rw[<-hg,hfirst];omega
 have HN:Hid (∀k x,r.ids[(s.hd 1+k)%s.L.length]?=some x->r.ids[(s.hd 1+(k+1))%s.L.length]?=some (nxt r.ids x)):=by
  intro k x hx;have:=rO h2.rl.nd hx;rw[<-hle,Nat.mod_add_mod]at this;rw[<-Nat.add_assoc];exact this
 have H1:=Hd h1
 have HX0:Hid (r.ids[(s.hd 1+0)%s.L.length]?=some (r.h 1)):=by
  unfold Hid;rw[Nat.add_zero,Nat.mod_eq_of_lt hd1];exact h2.rl.hands (by omega) hne
 have c3:w.cell? ⟨b,3,none⟩=some (.int .i64 (r.h 1:Nat)):=h1.hand (j:=1) (by omega);clear h1 h2 hk hm hz he0 hfind hfirst hf0 hlen hd1 hgo hrot has hrl hal hle hne;generalize xs1.length=al at*;generalize s.first=fi at*;generalize s.L.length=sl at*;generalize s.hd 1=hd at*;go_enter func254,ntmps254
 go_wp2_with fail
 go_loopg [3] al (λg v wr=>∃k x:Nat,k<=al/\g=al-k/\v=.int .i64 x/\r.ids[(hd+k)%sl]?=some x/\∃d,w.drewN d=wr)
 case atStart=>exact⟨0,r.h 1,Nat.zero_le _,by omega,rfl,HX0.out,0,rfl⟩
 case round=>
  obtain⟨k,x,hka,hg,rfl,hx,d,rfl⟩:=hrel;have HG:=Hd hg;obtain⟨x',hx',hx2,hxm,hv,hfr⟩:=HAT.out k hka;rw[hx]at hx';simp only[Option.some.injEq]at hx';subst hx';have hc:PC (w.drewN d) b n A r:=H1.out.fr0 ((Fr.refl NoF w).drewN d);have c1:(w.drewN d).cell? ⟨b,1,none⟩=some (.slice (some ⟨A.eb,0,none⟩) (2*n) (2*n)):=hc.c 1 (by omega);obtain⟨_,x1,_,_,_,x5⟩:=hc.ce hx2;have g0:(0:Int)<=(x:Int):=by omega
  have g1:(x:Int)<2*(n:Int):=by omega
  have HNX:=Hd (HN.out k x hx);by_cases c:k=al
  .rw[hv,show decide (k=al)=true from by simpa using c]at x5
   rw[hfr c]at x1;clear hx hxm hv hfr hc hg c c3;go_wp2;go_returns;exact⟨rfl,d,rfl⟩
  .rw[hv,show decide (k=al)=false from by simpa using c]at x5
   have HNE:=Hd (vQ hc hxm);have HKA:Hid (k<al):=by unfold Hid;omega
   clear hx hxm hv hfr hc hg c c3
   go_wp2_with fail
   refine HNE.out.mono ?_;clear HNE;rintro e w2⟨rfl,d2,rfl⟩;go_wp2
   go_roundg (al-(k+1))
   case measure=>have:=HG.out;have:=HKA.out;omega
   case rel=>exact⟨k+1,_,HKA.out,rfl,rfl,HNX.out,d+d2,by first|rfl|rw[World.drewN_drewN]⟩
end
def jj(V:PrS×Option Nat):Nat:=match V.2 with
 |some f=>f
 |none=>V.1.first
def iH(V:PrS×Option Nat):PrS:=match V.2 with
 |some _=>V.1
 |none=>V.1.rem V.1.first
section
variable{w w':World}{b n m:Nat}{A:AP}{r:Raw}{s:PrS}{i x f:Nat}{y:En}
theorem AE{k:Nat}{st:PrS}(hy:st.L[st.hd 1]?=some y):vicL n (k+1) st=if st.idle y=true then vicL n k (st.mv 1)else if y.ref=true then vicL n k (st.turn n (st.hd 1) y)else(st.send n (st.hd 1) y,some y.fr.toNat):=by
 rw[vicL];simp only[hy]
theorem nD{st st':PrS}(k:Kept st st'):st'.sizeN n=st.sizeN n:=by unfold PrS.sizeN;rw[k.pg,k.on]
theorem oM(h:PA n b A w s)(hk:PK n m s)(hm:PM n s)(hz:s.sizeN n=0)(p:Int):Calls prog 243 #[.pointer (some ⟨b,0,none⟩),.int .u32 p] w λe w'=>e=.returned (.tuple #[.int .i64 0,.bool false])/\w=w':=by
 obtain⟨r,h1,h2⟩:=h;have hs:=uy h1;rw[h2.size,<-size_eq hk hm,hz]at hs;have HS:=Hd hs;clear h1 h2 hk hm hz hs;go_enter func243,ntmps243
 go_wp2_with(go_at_call 242;refine HS.out.mono ?_;rintro e w'⟨rfl,rfl⟩)
 go_returns;exact⟨rfl,rfl⟩
theorem lW(h:PA n b A w s)(hk:PK n n s)(hm:PM n s)(hz:¬s.sizeN n=0)(hn:n<=65535)(p:Int):Calls prog 243 #[.pointer (some ⟨b,0,none⟩),.int .u32 p] w λe w'=>e=.returned (.tuple #[.int .i64 (jj (s.vic n):Nat),.bool true])/\PA n b A w' (iH (s.vic n))/\Fr (FPr A b) w w':=by
 have H:=Hd h;obtain⟨r,h1,h2⟩:=h;have HS:=Hd (uy h1);have hs0:0<(r.size:Int):=by have:=size_eq hk hm;have:=h2.size;omega
 have HL:=Hd (sn h1);have hlen:=h2.len;have hll:r.ids.length<=140000:=by have:=h2.tot;omega
 have HV0:Hid (vicL n (4*r.ids.length+4) s=s.vic n):=by unfold Hid PrS.vic;rw[hlen]
 have HK:=Hd hk;have HM:=Hd hm;have HZ:=Hd hz;clear h1 h2 hk hm hz hlen;generalize r.size=sz at*;generalize r.ids.length=len at*;generalize s.vic n=V at*;have hne:((sz:Int)==0)=false:=by simp;omega
 go_enter func243,ntmps243
 go_wp2_with(first
  |(go_at_call 242;refine HS.out.mono ?_;rintro e w'⟨rfl,rfl⟩)
  |(go_at_call 250;refine HL.out.mono ?_;rintro e w'⟨rfl,rfl⟩)
  |fail)
 clear HS HL hne hs0;obtain⟨T,hT⟩:∃T,4*len+4=T:=⟨_,rfl⟩;rw[hT]at HV0;have HT:=Hd hT;clear hT
 go_loopg [18] T (λg v wr=>∃(j:Nat) (st:PrS),j<=T/\g=T-j/\v=.int .i64 j/\PA n b A wr st/\PK n n st/\PM n st/\(¬st.sizeN n=0)/\vicL n (T-j) st=V/\Fr (FPr A b) w wr)
 case atStart=>exact⟨0,s,Nat.zero_le _,by omega,rfl,H.out,HK.out,HM.out,HZ.out,HV0.out,Fr.refl _ _⟩
 case round=>
  obtain⟨j,st,hj,hg,rfl,h1,hk1,hm1,hz1,hv,f1⟩:=hrel;have HG:=Hd hg;have F1:=Hd f1;clear H HK HM HZ HV0 hg f1;by_cases hlt:j<T
  .obtain⟨r1,hc,hr⟩:=h1
   have hlp:0<st.L.length:=by
    obtain⟨e0,he0,_⟩:=iz hk1 hm1 hz1;exact List.length_pos_of_mem he0
   obtain⟨y,hy⟩:=hk1.at hlp (j:=1) (by omega);obtain⟨hxm,hx,ex⟩:=hr.rl.at (j:=1) (by omega) hy;obtain⟨q1,q2,q3,q4⟩:=hk1.el y (aB hy);have hJ:(j:Int)<4*(len:Int)+4:=by have:=HT.out;omega
   have hj0:j<=900000:=by have:=HT.out;omega
   have ek:T-j=(T-(j+1))+1:=by omega
   rw[ek,AE hy]at hv;have c1:wr.cell? ⟨b,1,none⟩=some (.slice (some ⟨A.eb,0,none⟩) (2*n) (2*n)):=hc.c 1 (by omega);have c3:wr.cell? ⟨b,3,none⟩=some (.int .i64 (r1.h 1:Nat)):=hc.hand (j:=1) (by omega);have hx2:=hc.lists.2.2.1 _ hxm;obtain⟨_,_,x2,x3,_,x5⟩:=hc.ce hx2;rw[hr.v _ hxm,ex]at x5;rw[ex]at x2 x3;have lb:=hc.hd.lt;have le:=hc.en.lt;have g0:(0:Int)<=(r1.h 1:Int):=by omega
   have g1:(r1.h 1:Int)<2*(n:Int):=by omega
   have HMV:=Hd (eC (j:=1) (⟨r1,hc,hr⟩:PA n b A wr st) hlp (by omega));have KMV:Hid (PK n n (st.mv 1)/\PM n (st.mv 1)/\¬(st.mv 1).sizeN n=0):=⟨hk1.mv hlp 1,hm1.of rfl rfl (λ_ _=>Iff.rfl),hz1⟩;have HLT:=Hd hlt;clear hj hll ek;by_cases hh:y.hot=true
   .have hid:st.idle y=true:=by unfold PrS.idle;rw[hh];rfl
    rw[if_pos hid]at hv;rw[hh]at x2;have HV:=Hd hv;clear hv hid hh q1 q2 q3 q4 hx hxm ex hy hc hr hk1 hm1 hz1 hlt x3 x5
    go_wp2_with fail
    refine HMV.out.mono ?_;clear HMV;rintro e w2⟨rfl,h3,f3⟩;have H3:=Hd h3;have F3:=Hd (F1.out.trans f3 (λi q=>.inl q));clear h3 f3;go_wp2
    go_roundg (T-(j+1))
    case measure=>have:=HG.out;have:=HLT.out;omega
    case rel=>exact⟨j+1,_,HLT.out,rfl,by go_num,H3.out,KMV.out.1,KMV.out.2.1,KMV.out.2.2,HV.out,F3.out⟩
   .have hh:y.hot=false:=by simpa using hh
    rw[hh]at x2;by_cases hrf:y.ref=true
    .rw[hrf]at x3
     have hf0:0<=y.fr:=by
      rcases Int.lt_or_le y.fr 0 with c|c
      .have:=(q3 c).2;rw[hrf]at this;cases this
      .exact c
     have hid:¬st.idle y=true:=by unfold PrS.idle;rw[hh,hrf];simp;omega
     rw[if_neg hid,if_pos hrf]at hv;have HT0:=Dr hc hr hk1 hx (by rw[ex];exact hf0) (by rw[ex];exact hh) hn;rw[ex]at HT0;have HT:=Hd HT0;obtain⟨t1,t2⟩:=uD hk1 hy hf0;have KT:Hid (PK n n (st.turn n (st.hd 1) y)/\PM n (st.turn n (st.hd 1) y)/\¬(st.turn n (st.hd 1) y).sizeN n=0):=⟨t1,hm1.kept t2,by rw[nD t2];exact hz1⟩;have HV:=Hd hv;clear hv hid hh hrf hf0 q1 q2 q3 q4 hx hxm ex hy hc hr hk1 hm1 hz1 hlt x5 HT0 t1 t2 HMV KMV
     go_wp2_with fail
     refine HT.out.mono ?_;clear HT;rintro e w2⟨rfl,h3,f3⟩;have H3:=Hd h3;have F3:=Hd (F1.out.trans f3 (λi q=>.inl q));clear h3 f3;go_wp2
     go_roundg (T-(j+1))
     case measure=>have:=HG.out;have:=HLT.out;omega
     case rel=>exact⟨j+1,_,HLT.out,rfl,by go_num,H3.out,KT.out.1,KT.out.2.1,KT.out.2.2,HV.out,F3.out⟩
    .have hrf:y.ref=false:=by simpa using hrf
     rw[hrf]at x3;by_cases hgo:st.mayGo y=true
     .rw[hgo]at x5
      have hgo2:=hgo;unfold PrS.mayGo at hgo2;simp only[Bool.and_eq_true,decide_eq_true_eq]at hgo2;have hid:¬st.idle y=true:=by unfold PrS.idle;rw[hh,hrf,hgo2.2];simp;omega
      rw[if_neg hid,if_neg (by simp[hrf])]at hv;obtain⟨f,hf⟩:=Int.eq_ofNat_of_zero_le hgo2.1;have HS0:=Cr hc hr hk1 hm1 hx (by rw[ex];exact hf) (by rw[ex];exact hrf) hn;rw[ex]at HS0;have HSD:=Hd HS0
      have HRF:Hid (jj V=f):=by
       unfold Hid jj;rw[<-hv]
       show y.fr.toNat=f
       rw[hf];rfl
      have HRS:Hid (iH V=st.send n (st.hd 1) y):=by
       unfold Hid iH;rw[<-hv]
      clear hv hid hh hrf hgo hgo2 q1 q2 q3 q4 hx hxm ex hy hc hr hk1 hm1 hz1 hlt HS0 HMV KMV hf
      go_wp2_with fail
      refine HSD.out.mono ?_;clear HSD;rintro e w2⟨rfl,h3,f3⟩;have KEY:=Hd (And.intro h3 (F1.out.trans f3 (λi q=>.inl q)));clear h3 f3;go_wp2;go_returns;exact⟨by rw[HRF.out];rfl,by rw[HRS.out];exact KEY.out.1,KEY.out.2⟩
     .have hgo:st.mayGo y=false:=by simpa using hgo
      rw[hgo]at x5
      have hid:st.idle y=true:=by
       unfold PrS.mayGo at hgo;unfold PrS.idle;rw[hh,hrf];by_cases c:y.fr<0
       .simp[c]
       .have c2:0<=y.fr:=by omega
        rw[show decide (0<=y.fr)=true from by simpa using c2]at hgo;simp at hgo;simp[hgo]
      rw[if_pos hid]at hv;have HV:=Hd hv;clear hv hid hh hrf hgo q1 q2 q3 q4 hx hxm ex hy hc hr hk1 hm1 hz1 hlt
      go_wp2_with fail
      refine HMV.out.mono ?_;clear HMV;rintro e w2⟨rfl,h3,f3⟩;have H3:=Hd h3;have F3:=Hd (F1.out.trans f3 (λi q=>.inl q));clear h3 f3;go_wp2
      go_roundg (T-(j+1))
      case measure=>have:=HG.out;have:=HLT.out;omega
      case rel=>exact⟨j+1,_,HLT.out,rfl,by go_num,H3.out,KMV.out.1,KMV.out.2.1,KMV.out.2.2,HV.out,F3.out⟩
  .obtain rfl:j=T:=by omega
   rw[Nat.sub_self,vicL]at hv;have HF:=Hd (BK h1 hk1 hm1 hz1)
   obtain⟨p1,p2⟩:st.first<n/\¬st.pg st.first=0:=by
    obtain⟨_,_,_,_,_,p1,p2,_⟩:=iz hk1 hm1 hz1;exact⟨p1,p2⟩
   obtain⟨i,y,ei,hy,hyf⟩:=kP hm1 p1 p2;have HRF:Hid (jj V=st.first):=by unfold Hid jj;rw[<-hv]
   have HRS:Hid (iH V=(st.empty st.first).drop i):=by
    unfold Hid iH;rw[<-hv]
    show st.rem st.first=_
    unfold PrS.rem;rw[ei]
   have HRM:Hid (∀W,Fr NoF wr W->Calls prog 240 #[.pointer (some ⟨b,0,none⟩),.int .i64 (st.first:Nat)] W λe w'=>e=.returned (.tuple #[])/\PA n b A w' ((st.empty st.first).drop i)/\Fr (FPr A b) W w'):=λW g=>jh (h1.fr0 g) hk1 hy hyf hn
   have hJ:4*(len:Int)+4<=(j:Int):=by have:=HT.out;omega
   clear hv h1 hk1 hm1 hz1 p1 p2 ei hy hyf hj hlt hll;generalize st.first=fi at*
   go_wp2_with fail
   (with_reducible refine HF.out.mono ?_)
   clear HF;rintro e w2⟨rfl,d,rfl⟩
   go_wp2_with fail
   refine(HRM.out _ (by repeat(first|exact Fr.refl NoF _|apply Fr.drew|apply Fr.drewN))).mono ?_;clear HRM;rintro e w3⟨rfl,h3,f3⟩;have KEY:Hid (PA n b A w3 ((st.empty fi).drop i)/\Fr (FPr A b) w w3):=⟨h3,(F1.out.trans (G:=NoF) (by repeat(first|exact Fr.refl NoF _|apply Fr.drew|apply Fr.drewN)) (λ_ q=>q.elim)).trans f3 (λi q=>.inl q)⟩;clear h3 f3;go_wp2;go_returns;exact⟨by rw[HRF.out];rfl,by rw[HRS.out];exact KEY.out.1,KEY.out.2⟩
end
end
end Go.Proofs.YtoenclhimbpfeaaGreatDoor
