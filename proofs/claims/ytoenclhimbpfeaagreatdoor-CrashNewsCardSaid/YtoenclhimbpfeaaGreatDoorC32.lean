/- Part 32. -/
import Derived.Test.YtoenclhimbpfeaaGreatDoorC31
namespace Go.Proofs.YtoenclhimbpfeaaGreatDoor
set_option linter.all false
set_option maxHeartbeats 16000000
set_option maxRecDepth 100000
section
open Go.Maps Go.Proofs.Tryz Go.RowKit
def PA(n b:Nat)(A:AP)(w:World)(s:PrS):Prop:=∃r,PC w b n A r∧Rf n r s
section
variable{w w':World}{b n m:Nat}{A:AP}{r:Raw}{s:PrS}{i x f:Nat}{y:En}
theorem PA.fr0(h:PA n b A w s)(f:Fr NoF w w'):PA n b A w' s:=by
 obtain⟨r,h1,h2⟩:=h;exact⟨r,h1.fr0 f,h2⟩
theorem PA.pgs(h:PA n b A w s)(g:Nat->Nat):PA n b A w {s with pg:=g}:=by
 obtain⟨r,h1,h2⟩:=h;exact⟨r,h1,h2.pgs g⟩
theorem pa_move(h:PA n b A w s)(hL:0<s.L.length){j:Nat}(hj:j<3):Calls prog 253 #[.pointer (some ⟨b,0,none⟩),.int .i64 j] w fun e w'=>e=.returned (.tuple #[])∧PA n b A w' (s.mv j)∧Fr (FPr A b) w w':=by
 obtain⟨r,h1,h2⟩:=h;have hne:¬r.ids=[]:=fun c=>by have:=h2.len;rw[c]at this;simp at this;rw[this]at hL;simp at hL
 have hh:=List.mem_of_getElem? (h2.rl.hands hj hne);exact(ck_move h1 hj hh).mono fun e w' ⟨a1,a2,a3⟩=>⟨a1,⟨_,a2,h2.move j⟩,a3.mono (fun i q=>.inl q)⟩
theorem pa_remove(h:PA n b A w s)(hk:PK n m s)(hi:s.L[i]?=some y)(hf:y.fr=(f:Int))(hn:n<=65535):Calls prog 240 #[.pointer (some ⟨b,0,none⟩),.int .i64 f] w fun e w'=>e=.returned (.tuple #[])∧PA n b A w' ((s.empty f).drop i)∧Fr (FPr A b) w w':=by
 obtain⟨r,h1,h2⟩:=h;obtain⟨x,hx,ex⟩:=h2.rl.id hi;subst ex;have hxm:=List.mem_of_getElem? hx;obtain⟨q1,q2,_,_⟩:=hk.el _ (mem_get hi);have hfn:f<n:=by omega
 have hfm:=h2.fm2 f hfn x hxm hf;have hx2:=h1.lists.2.2.1 x hxm;have hsz:=h2.size_le;have hht:=h2.hot_le;have HH:=Hd (pr_has h1 hfn x hfm);have HE:=Hd (pr_empty h1 hfn hfm hx2 (fun q=>h2.size_pos hxm q) (by omega));obtain⟨a1,a2,a3,a4,a5⟩:=setV_e (r:=r) x false;obtain⟨b1,b2,b3,b4⟩:=setV_ids (r:=r) x false
 have HD:Hid (∀W,PC W b n A (r.empty f x)->Calls prog 247 #[.pointer (some ⟨b,0,none⟩),.int .i64 x] W fun e w'=>e=.returned (.tuple #[])∧PC w' b n A ((r.empty f x).pdrop x)∧Fr (FPr A b) W w'):=fun W hW=>by
  have ee:(r.empty f x).e x={r.e x with fr:= -1}:=by show upd r.e x _ x=_;rw[upd_same]
  have eh:(r.empty f x).hot=r.hot:=b3;refine pr_drop hW (by show x∈(r.setV x false).ids;rw[a3];exact hxm) (by rw[ee];exact q2.2) (fun q=>?_) (by rw[eh];omega);rw[ee]at q;rw[eh];exact h2.hot_pos hxm q
 have HR:=Hd (h2.out hk hx hf);have c5:w.cell? ⟨b,5,none⟩=some (.slice (some ⟨A.fb,0,none⟩) n n):=h1.c 5 (by omega);have cf:=h1.cf hfn;rw[hfm]at cf;have g0:(0:Int)<=(f:Int):=by omega
 have g1:(f:Int)<(n:Int):=by omega
 clear hi hf hfm hx hxm q1 q2 hsz hht a1 a2 a3 a4 a5 b1 b2 b3 b4 h1 h2 hk;go_enter func240,ntmps240
 go_wp2_with(go_at_call 248;refine HH.out.mono ?_;rintro e w'⟨rfl,rfl⟩)
 refine HE.out.mono ?_;clear HE HH c5 cf;rintro e w1⟨rfl,h1,f1⟩;have HD1:=Hd (HD.out _ h1);have F1:=Hd f1;clear h1 f1 HD
 go_wp2_with fail
 refine HD1.out.mono ?_;clear HD1;rintro e w2⟨rfl,h2,f2⟩;have KEY:Hid (PA n b A w2 ((s.empty f).drop i)∧Fr (FPr A b) w w2):=⟨⟨_,h2,HR.out⟩,F1.out.trans f2 (fun i q=>.inl q)⟩;clear h2 f2 HR;go_wp2;go_returns;exact⟨rfl,KEY.out⟩
theorem pa_fail(h1:PC w b n A r)(h2:Rf n r s)(hk:PK n m s)(hx:r.ids[i]?=some x)(hn:n<=65535):Calls prog 262 #[.pointer (some ⟨b,0,none⟩),.int .i64 x] w fun e w'=>e=.returned (.bool (decide ((r.e x).fr<0)))∧PA n b A w' (s.ends i (r.e x))∧Fr (FPr A b) w w':=by
 have hi:=h2.get hx;have hxm:=List.mem_of_getElem? hx;obtain⟨q1,q2,_,_⟩:=hk.el _ (mem_get hi);have hx2:=h1.lists.2.2.1 x hxm;have hht:=h2.hot_le;have hgl:=hk.gl;have hgo:=h2.goal;have c1:w.cell? ⟨b,1,none⟩=some (.slice (some ⟨A.eb,0,none⟩) (2*n) (2*n)):=h1.c 1 (by omega);have c7:w.cell? ⟨b,7,none⟩=some (.int .i64 (r.goal:Nat)):=h1.c 7 (by omega);obtain⟨_,x1,_,_,x4,_⟩:=h1.ce hx2;have fe:=fun i=>h1.en.frozen i
 have fb:=h1.hd.frozen 7;have lb:=h1.hd.lt;have le:=h1.en.lt;obtain⟨n1,_,_,_,_,_,_⟩:=h1.lb.ne;have n1':¬b=A.eb:=fun e=>n1 e.symm
 have g0:(0:Int)<=(x:Int):=by omega
 have g1:(x:Int)<2*(n:Int):=by omega
 have g2:1<=(r.goal:Int):=by omega
 have g3:(r.goal:Int)<=140000:=by omega
 have h3:=h2.goals (max (s.goal-1) 1);have h4:Rf n {r with goal:=max (s.goal-1) 1,e:=upd r.e x {r.e x with test:=false},hot:=r.hot} (s.less.put i {r.e x with test:=false}):=h3.put (y:={r.e x with test:=false}) hx rfl rfl rfl
 have HP:Hid (∀z:Int,z=((max (s.goal-1) 1:Nat):Int)->PC ((w.setCell ⟨b,7,none⟩ (.int .i64 z)).setCell ⟨A.eb,x*6+4,none⟩ (.bool false)) b n A {r with goal:=max (s.goal-1) 1,e:=upd r.e x {r.e x with test:=false}}∧Fr (FPr A b) w ((w.setCell ⟨b,7,none⟩ (.int .i64 z)).setCell ⟨A.eb,x*6+4,none⟩ (.bool false))):=fun z ez=>by
  subst ez;have a1:=h1.setHead (r':={r with goal:=max (s.goal-1) 1}) (prH_goal _ _ _ _ _) rfl;exact⟨a1.setEn (r':={r with goal:=max (s.goal-1) 1,e:=upd r.e x {r.e x with test:=false}}) (en_test r.e r.v x false) rfl,((Fr.refl (FPr A b) w).setCell (p:=⟨b,7,none⟩) (.inl (.inl rfl)) _).setCell (p:=⟨A.eb,x*6+4,none⟩) (.inl (.inr (.inl rfl))) _⟩
 have hg1:1<=max (s.goal-1) 1:=by omega
 have hg2:r.goal<=max (s.goal-1) 1+1:=by omega
 have hg3:max (s.goal-1) 1=1∨max (s.goal-1) 1+1=r.goal:=by omega
 by_cases hf:(r.e x).fr<0
 .have HD:Hid (∀W,PC W b n A {r with goal:=max (s.goal-1) 1,e:=upd r.e x {r.e x with test:=false}}->Calls prog 247 #[.pointer (some ⟨b,0,none⟩),.int .i64 x] W fun e w'=>e=.returned (.tuple #[])∧PA n b A w' (s.ends i (r.e x))∧Fr (FPr A b) W w'):=fun W hW=>by
   have h5:=h4.ghost (i:=i) (x:=x) hx (by show(upd r.e x _ x).fr<0;rw[upd_same];exact hf);rw[put_drop]at h5;refine(pr_drop hW (x:=x) hxm (by show(upd r.e x _ x).pg<_;rw[upd_same];exact q2.2) (fun q=>?_) (by show r.hot<=_;omega)).mono fun e w' ⟨b1,b2,b3⟩=>⟨b1,⟨_,b2,by unfold PrS.ends;rw[if_pos hf];exact h5⟩,b3⟩
   have q:(upd r.e x {r.e x with test:=false} x).hot=true:=q;rw[upd_same]at q;exact h2.hot_pos hxm q
  have hm1:(r.e x).fr= -1:=by omega
  rw[show decide ((r.e x).fr<0)=true from by simpa using hf];rw[hm1]at x1;clear h3 h4 h1 h2 hk hi hxm q1 q2 hx hf hm1 hgl hgo;generalize max (s.goal-1) 1=gg at*;go_enter func262,ntmps262;have HX:=Hd fun z (ez:z=(gg:Int))=>(HD.out _ (HP.out z ez).1).mono fun e w' ⟨k,h5,f5⟩=>And.intro k (And.intro h5 ((HP.out z ez).2.trans f5 (fun i q=>.inl q)))
  clear HD HP
  go_wp2_with fail
  all_goals
   refine(HX.out _ (by omega)).mono ?_;clear HX;rintro e w2⟨rfl,h5⟩;have KEY:=Hd h5;clear h5 hg1 hg2 hg3;go_wp2;go_returns;exact⟨rfl,KEY.out⟩
 .have HE:Hid (∀W,PC W b n A {r with goal:=max (s.goal-1) 1,e:=upd r.e x {r.e x with test:=false}}->PA n b A W (s.ends i (r.e x))):=fun W hW=>⟨_,hW,by unfold PrS.ends;rw[if_neg hf];exact h4⟩
  have hm1:((r.e x).fr== -1)=false:=by simp;omega
  rw[show decide ((r.e x).fr<0)=false from by simpa using hf];clear h3 h4 h1 h2 hk hi hxm q1 q2 hx hf hgl hgo;generalize max (s.goal-1) 1=gg at*;go_enter func262,ntmps262
  go_wp2_with fail
  all_goals
   have KEY:=Hd fun z (ez:z=(gg:Int))=>And.intro (HE.out _ (HP.out z ez).1) (HP.out z ez).2
   clear HE HP;go_returns;exact⟨rfl,KEY.out _ (by omega)⟩
end
section
variable{w w':World}{b n m:Nat}{A:AP}{r:Raw}{s:PrS}{i x f:Nat}{y:En}
theorem work_step{g:Nat}{st fin:PrS}(h:workO g st=some fin)(h0:¬st.hotN=0)(hy:st.L[st.hd 0]?=some y):∃g',g=g'+1∧((hotStep st y).2=true->fin=(hotStep st y).1)∧((hotStep st y).2=false->workO g' (hotStep st y).1=some fin):=by
 cases g with
 |zero=>cases h
 |succ g=>
  unfold workO at h;rw[if_neg h0,hy]at h;simp only at h;refine⟨g,rfl,fun e=>?_,fun e=>?_⟩
  .rw[if_pos e]at h;simpa using h.symm
  .rw[if_neg (by simp[e])]at h;exact h
theorem work_stop{g:Nat}{st fin:PrS}(h:workO g st=some fin)(h0:st.hotN=0):fin=st:=by
 cases g with
 |zero=>cases h
 |succ g=>unfold workO at h;rw[if_pos h0]at h;simpa using h.symm
theorem pa_workHot(h:PA n b A w s)(hk:PK n m s)(h0:¬s.hotN=0)(hn:n<=65535):Calls prog 255 #[.pointer (some ⟨b,0,none⟩)] w fun e w'=>e=.returned (.tuple #[])∧PA n b A w' s.work∧Fr (FPr A b) w w':=by
 obtain⟨k0,hk0⟩:=work_some hk h0;have H:=Hd h;have HK:=Hd hk;have HK0:=Hd hk0;clear h hk h0 hk0;generalize s.work=fin at*;go_enter func255,ntmps255
 go_wp2_with fail
 go_loopg [] k0 (fun g wr=>∃st,PA n b A wr st∧PK n m st∧workO g st=some fin∧Fr (FPr A b) w wr)
 case atStart=>exact⟨s,H.out,HK.out,HK0.out,Fr.refl _ _⟩
 case round=>
  obtain⟨st,h1,hk1,ho,f1⟩:=hrel;obtain⟨r,hc,hr⟩:=h1;clear H HK HK0;have c8:wr.cell? ⟨b,8,none⟩=some (.int .i64 (r.hot:Nat)):=hc.c 8 (by omega);have hht:=hr.hot_le;have F1:=Hd f1;by_cases hz:st.hotN=0
  .have hfin:=work_stop ho hz
   have hrz:r.hot=0:=by rw[hr.hot];exact hz
   rw[hrz]at c8;have KEY:Hid (PA n b A wr fin∧Fr (FPr A b) w wr):=⟨by rw[hfin];exact⟨r,hc,hr⟩,f1⟩;clear hz hfin hrz hc hr hk1 ho f1 F1;go_wp2;go_returns;exact⟨rfl,KEY.out⟩
  .obtain⟨y,hy⟩:=hk1.at (hot_pos hz) (j:=0) (by omega)
   obtain⟨hxm,hx,ex⟩:=hr.rl.at (j:=0) (by omega) hy;obtain⟨g',eg,st1,st2⟩:=work_step ho hz hy;have hgk:=Hd eg;obtain⟨q1,q2,q3,q4⟩:=hk1.el y (mem_get hy);obtain⟨pk2,kp2,_⟩:=hotStep_kept hk1 hy;have hlen:0<st.L.length:=hot_pos hz;have hrp:(0:Int)<(r.hot:Int):=by have:=hr.hot;omega
   have hr1:1<=r.hot:=by omega
   have c1:wr.cell? ⟨b,1,none⟩=some (.slice (some ⟨A.eb,0,none⟩) (2*n) (2*n)):=hc.c 1 (by omega);have c2:wr.cell? ⟨b,2,none⟩=some (.int .i64 (r.h 0:Nat)):=hc.hand (j:=0) (by omega);have hx2:=hc.lists.2.2.1 _ hxm;obtain⟨_,x1,x2,x3,x4,_⟩:=hc.ce hx2;rw[ex]at x1 x2 x3 x4;have fe:=fun i=>hc.en.frozen i
   have fb8:=hc.hd.frozen 8;have lb:=hc.hd.lt;have le:=hc.en.lt;obtain⟨n1,_,_,_,_,_,_⟩:=hc.lb.ne;have n1':¬b=A.eb:=fun e=>n1 e.symm
   have g0:(0:Int)<=(r.h 0:Int):=by omega
   have g1:(r.h 0:Int)<2*(n:Int):=by omega
   have HC:=Hd hc;have HR:=Hd hr;have HXX:=Hd hx;have HEX:=Hd ex;have HY:=Hd hy;have HPK1:=Hd hk1;clear hc hr hx ex hk1 ho f1 hz eg hxm;unfold hotStep at st1 st2 pk2;by_cases hh:y.hot=true
   .rw[if_pos hh]at st1 st2 pk2
    rw[hh]at x2;by_cases hrf:y.ref=true
    .rw[if_pos hrf]at st2 pk2
     rw[hrf]at x3;have S2:=Hd (st2 rfl);have PK2:=Hd pk2
     have HP:Hid (PA n b A (wr.setCell ⟨A.eb,r.h 0*6+3,none⟩ (.bool false)) (st.put (st.hd 0) {y with ref:=false})∧Fr (FPr A b) w (wr.setCell ⟨A.eb,r.h 0*6+3,none⟩ (.bool false))):=by
      refine⟨⟨{r with e:=upd r.e (r.h 0) {r.e (r.h 0)with ref:=false}},HC.out.setEn (r':={r with e:=upd r.e (r.h 0) {r.e (r.h 0)with ref:=false}}) (en_ref r.e r.v _ false) rfl,?_⟩,F1.out.setCell (p:=⟨A.eb,r.h 0*6+3,none⟩) (.inl (.inr (.inl rfl))) _⟩;have:=HR.out.put (y:={r.e (r.h 0)with ref:=false}) (z:=r.hot) HXX.out rfl rfl rfl;rw[HEX.out]at this⊢;exact this
     have HM:=Hd (pa_move (j:=0) HP.out.1 (by show 0<(st.L.set _ _).length;rw[List.length_set];exact hlen) (by omega));clear st1 st2 pk2 hh hrf q3 q4 HC HR HXX HEX HY HPK1 kp2
     go_wp2_with fail
     refine HM.out.mono ?_;clear HM;rintro e w2⟨rfl,h2,f2⟩;have H2:=Hd h2;have F2:=Hd (HP.out.2.trans f2 (fun i q=>.inl q));clear h2 f2 HP;go_wp2
     go_roundg g'
     case measure=>have:=hgk.out;omega
     case rel=>exact⟨_,H2.out,PK2.out,S2.out,F2.out⟩
    .have hrf:y.ref=false:=by simpa using hrf
     rw[if_neg (by simp[hrf])]at st1;rw[hrf]at x3;have S1:=Hd (st1 rfl)
     have HP:Hid (PA n b A ((wr.setCell ⟨A.eb,r.h 0*6+2,none⟩ (.bool false)).setCell ⟨b,8,none⟩ (.int .i64 ((r.hot:Int)-1))) (st.put (st.hd 0) {y with hot:=false})∧Fr (FPr A b) w ((wr.setCell ⟨A.eb,r.h 0*6+2,none⟩ (.bool false)).setCell ⟨b,8,none⟩ (.int .i64 ((r.hot:Int)-1)))):=by
      have e8:(r.hot:Int)-1=((r.hot-1:Nat):Int):=by omega
      rw[e8];have a1:=HC.out.setEn (r':={r with e:=upd r.e (r.h 0) {r.e (r.h 0)with hot:=false}}) (en_hot r.e r.v _ false) rfl;have a2:=a1.setHead (r':={r with e:=upd r.e (r.h 0) {r.e (r.h 0)with hot:=false},hot:=r.hot-1}) (prH_hot _ _ _ _ _) rfl;refine⟨⟨_,a2,?_⟩,(F1.out.setCell (p:=⟨A.eb,r.h 0*6+2,none⟩) (.inl (.inr (.inl rfl))) _).setCell (p:=⟨b,8,none⟩) (.inl (.inl rfl)) _⟩;have:=HR.out.put (y:={r.e (r.h 0)with hot:=false}) (z:=r.hot-1) HXX.out rfl rfl (by rw[HEX.out,hh];simp;omega);rw[HEX.out]at this⊢;exact this
     have HM:=Hd (pa_move (j:=0) HP.out.1 (by show 0<(st.L.set _ _).length;rw[List.length_set];exact hlen) (by omega));clear st1 st2 pk2 hh hrf q3 q4 HC HR HXX HEX HY HPK1 kp2
     go_wp2_with fail
     refine HM.out.mono ?_;clear HM;rintro e w2⟨rfl,h2,f2⟩;have KEY:Hid (PA n b A w2 fin∧Fr (FPr A b) w w2):=⟨by rw[S1.out];exact h2,HP.out.2.trans f2 (fun i q=>.inl q)⟩;clear h2 f2 HP;go_wp2;go_returns;exact⟨rfl,KEY.out⟩
   .have hh:y.hot=false:=by simpa using hh
    rw[if_neg (by simp[hh])]at st1 st2 pk2;rw[hh]at x2;by_cases ht:y.test=true
    .rw[if_pos ht]at st2 pk2
     rw[ht]at x4;have HF0:=pa_fail HC.out HR.out HPK1.out HXX.out hn;rw[HEX.out]at HF0;by_cases hg:y.fr<0
     .rw[if_pos hg]at st2 pk2
      rw[show decide (y.fr<0)=true from by simpa using hg]at HF0;have HF:=Hd HF0;have S2:=Hd (st2 rfl);have PK2:=Hd pk2;clear HF0 st1 st2 pk2 hh ht hg q3 q4 HC HR HXX HEX HY HPK1 kp2 q1
      go_wp2_with fail
      refine HF.out.mono ?_;clear HF;rintro e w2⟨rfl,h2,f2⟩;have H2:=Hd h2;have F2:=Hd (F1.out.trans f2 (fun i q=>.inl q));clear h2 f2;go_wp2
      go_roundg g'
      case measure=>have:=hgk.out;omega
      case rel=>exact⟨_,H2.out,PK2.out,S2.out,F2.out⟩
     .rw[if_neg hg]at st2 pk2
      rw[show decide (y.fr<0)=false from by simpa using hg]at HF0;have HF:=Hd HF0;have S2:=Hd (st2 rfl);have PK2:=Hd pk2;have hl2:0<(st.ends (st.hd 0) y).L.length:=by unfold PrS.ends;rw[if_neg hg];show 0<(st.L.set _ _).length;rw[List.length_set];exact hlen
      clear HF0 st1 st2 pk2 hh ht hg q3 q4 HC HR HXX HEX HY HPK1 kp2 q1
      go_wp2_with fail
      refine HF.out.mono ?_;clear HF;rintro e w2⟨rfl,h2,f2⟩;have HM:=Hd (pa_move (j:=0) h2 hl2 (by omega));have F2:=Hd (F1.out.trans f2 (fun i q=>.inl q));clear h2 f2
      go_wp2_with fail
      refine HM.out.mono ?_;clear HM;rintro e w3⟨rfl,h3,f3⟩;have H3:=Hd h3;have F3:=Hd (F2.out.trans f3 (fun i q=>.inl q));clear h3 f3;go_wp2
      go_roundg g'
      case measure=>have:=hgk.out;omega
      case rel=>exact⟨_,H3.out,PK2.out,S2.out,F3.out⟩
    .have ht:y.test=false:=by simpa using ht
     rw[if_neg (by simp[ht])]at st2 pk2;rw[ht]at x4;have S2:=Hd (st2 rfl);have PK2:=Hd pk2;have HM:=Hd (pa_move (j:=0) (⟨r,HC.out,HR.out⟩:PA n b A wr st) hlen (by omega));clear st1 st2 pk2 hh ht q3 q4 HC HR HXX HEX HY HPK1 kp2 q1
     go_wp2_with fail
     refine HM.out.mono ?_;clear HM;rintro e w3⟨rfl,h3,f3⟩;have H3:=Hd h3;have F3:=Hd (F1.out.trans f3 (fun i q=>.inl q));clear h3 f3;go_wp2
     go_roundg g'
     case measure=>have:=hgk.out;omega
     case rel=>exact⟨_,H3.out,PK2.out,S2.out,F3.out⟩
end
section
variable{w w':World}{b n m:Nat}{A:AP}{r:Raw}{s:PrS}{i x f:Nat}{y:En}
theorem wrap_small{z:Int}(h1: -1000000<=z)(h2:z<=1000000):IntKind.i64.wrap z=z:=IntWalk.i64_in _ ⟨by omega,by omega⟩
theorem pa_cool(h:PA n b A w s)(hk:PK n m s)(hn:n<=65535):Calls prog 244 #[.pointer (some ⟨b,0,none⟩)] w fun e w'=>e=.returned (.tuple #[])∧PA n b A w' (s.cool n)∧Fr (FPr A b) w w':=by
 have hk0:=(cool_ok (n:=n) hk).1;have H:=Hd h;have HK:=Hd hk;have HK0:=Hd hk0;clear h hk hk0;generalize s.cool n=fin at*;generalize s.hotN+1=k0 at*;go_enter func244,ntmps244
 go_wp2_with fail
 go_loopg [] k0 (fun g wr=>∃st,PA n b A wr st∧PK n m st∧coolO n g st=some fin∧Fr (FPr A b) w wr)
 case atStart=>exact⟨s,H.out,HK.out,HK0.out,Fr.refl _ _⟩
 case round=>
  obtain⟨st,h1,hk1,ho,f1⟩:=hrel;obtain⟨r,hc,hr⟩:=h1;clear H HK HK0;have c8:wr.cell? ⟨b,8,none⟩=some (.int .i64 (r.hot:Nat)):=hc.c 8 (by omega);have c7:wr.cell? ⟨b,7,none⟩=some (.int .i64 (r.goal:Nat)):=hc.c 7 (by omega);have c5:wr.cell? ⟨b,5,none⟩=some (.slice (some ⟨A.fb,0,none⟩) n n):=hc.c 5 (by omega);have lb:=hc.hd.lt;have hht:=hr.hot_le;have hgl:=hk1.gl;have hgo:=hr.goal;have h1n:=hk1.n1;have F1:=Hd f1;have hw:=wrap_small (z:=(n:Int)-(r.goal:Int)) (by omega) (by omega);by_cases hz:st.hotN<=n-st.goal
  .have hfin:fin=st:=by
    cases gk with
    |zero=>cases ho
    |succ g=>unfold coolO at ho;rw[if_pos hz]at ho;simpa using ho.symm
   have hlt:(r.hot:Int)<=(n:Int)-(r.goal:Int):=by have:=hr.hot;omega
   have KEY:Hid (PA n b A wr fin∧Fr (FPr A b) w wr):=⟨by rw[hfin];exact⟨r,hc,hr⟩,f1⟩;clear hz hfin hc hr hk1 ho f1 F1 hgl hgo h1n
   go_wp2_with fail
   go_quiet (fail)
   go_wp2;go_returns;exact⟨rfl,KEY.out.1.fr0 (by repeat(first|exact Fr.refl NoF _|apply Fr.drew|apply Fr.drewN)),KEY.out.2.trans (G:=NoF) (by repeat(first|exact Fr.refl NoF _|apply Fr.drew|apply Fr.drewN)) (fun _ q=>q.elim)⟩
  .obtain⟨g',eg,st2⟩:∃g',gk=g'+1∧coolO n g' st.work=some fin:=by
    cases gk with
    |zero=>cases ho
    |succ g=>unfold coolO at ho;rw[if_neg hz]at ho;exact⟨g,rfl,ho⟩
   have hgk:=Hd eg;have S2:=Hd st2;have hlt:(n:Int)-(r.goal:Int)<(r.hot:Int):=by have:=hr.hot;omega
   have hne:¬st.hotN=0:=by omega
   obtain⟨j,hj⟩:=work_some hk1 hne;have PK2:=Hd (workO_kept hk1 hj).1;have HW:Hid (∀W,Fr NoF wr W->Calls prog 255 #[.pointer (some ⟨b,0,none⟩)] W fun e w'=>e=.returned (.tuple #[])∧PA n b A w' st.work∧Fr (FPr A b) W w'):=fun W g=>pa_workHot (⟨r,hc.fr0 g,hr⟩:PA n b A W st) hk1 hne hn
   clear hz hc hr hk1 ho f1 eg st2 hne hj hgl hgo h1n
   go_wp2_with fail
   go_quiet (fail)
   go_wp2_with fail
   refine(HW.out _ (by repeat(first|exact Fr.refl NoF _|apply Fr.drew|apply Fr.drewN))).mono ?_;clear HW;rintro e w3⟨rfl,h3,f3⟩;have H3:=Hd h3;have F3:Hid (Fr (FPr A b) w w3):=(F1.out.trans (G:=NoF) (by repeat(first|exact Fr.refl NoF _|apply Fr.drew|apply Fr.drewN)) (fun _ q=>q.elim)).trans f3 (fun i q=>.inl q);clear h3 f3;go_wp2
   go_roundg g'
   case measure=>have:=hgk.out;omega
   case rel=>exact⟨_,H3.out,PK2.out,S2.out,F3.out⟩
theorem MpV.len_run{k:TypeId}{e t:TypeId}{kq:IntKind}{z0:Value}{c:Nat}{mf:Int->Option Value}{mb:Nat}(M:MV prog t k e kq z0)(h:MpV prog k kq z0 w mb c mf)(ty:TypeId):(Builtin.len_ #[t] ty #[.map (some mb)]).run prog w=.ok (.int .i64 c) w:=by
 obtain⟨D,h1,h2,h3⟩:=h;rw[h1.len M.ut ty,h2]
theorem test_step{g:Nat}{st fin:PrS}(h:testO n g st=some fin)(h0:n<st.gone)(hy:st.L[st.hd 2]?=some y):∃g',g=g'+1∧testO n g' (testStep st y)=some fin:=by
 cases g with
 |zero=>cases h
 |succ g=>
  unfold testO at h;rw[if_neg (by omega),hy]at h;exact⟨g,rfl,h⟩
theorem test_stop{g:Nat}{st fin:PrS}(h:testO n g st=some fin)(h0:st.gone<=n):fin=st:=by
 cases g with
 |zero=>cases h
 |succ g=>unfold testO at h;rw[if_pos h0]at h;simpa using h.symm
theorem pa_workTest(h:PA n b A w s)(hk:PK n (n+1) s)(h0:n<s.gone)(hn:n<=65535):Calls prog 260 #[.pointer (some ⟨b,0,none⟩)] w fun e w'=>e=.returned (.tuple #[])∧PA n b A w' (s.tests n)∧Fr (FPr A b) w w':=by
 obtain⟨⟨k0,hk0⟩,_,_⟩:=tests_ok hk;have H:=Hd h;have HK:=Hd hk;have HK0:=Hd hk0;have HG0:=Hd h0;clear h hk h0 hk0;generalize s.tests n=fin at*;go_enter func260,ntmps260
 go_wp2_with fail
 go_loopg [] k0 (fun g wr=>∃st,PA n b A wr st∧PK n (n+1) st∧n<st.gone∧testO n g st=some fin∧Fr (FPr A b) w wr)
 case atStart=>exact⟨s,H.out,HK.out,HG0.out,HK0.out,Fr.refl _ _⟩
 case round=>
  obtain⟨st,h1,hk1,hgn,ho,f1⟩:=hrel;obtain⟨r,hc,hr⟩:=h1;clear H HK HK0 HG0;have F1:=Hd f1;obtain⟨y,hy⟩:=hk1.at (gone_pos (by omega)) (j:=2) (by omega);have hlen:0<st.L.length:=gone_pos (by omega);obtain⟨hxm,hx,ex⟩:=hr.rl.at (j:=2) (by omega) hy;obtain⟨g',eg,st2⟩:=test_step ho hgn hy;have hgk:=Hd eg;obtain⟨q1,q2,q3,q4⟩:=hk1.el y (mem_get hy);obtain⟨pk2,kp2⟩:=testStep_kept hk1 hy;have c6:wr.cell? ⟨b,6,none⟩=some (.map (some A.mb)):=hc.c 6 (by omega);have c1:wr.cell? ⟨b,1,none⟩=some (.slice (some ⟨A.eb,0,none⟩) (2*n) (2*n)):=hc.c 1 (by omega);have c4:wr.cell? ⟨b,4,none⟩=some (.int .i64 (r.h 2:Nat)):=hc.hand (j:=2) (by omega);have hlr:=MpV.len_run MVg hc.mp 3;have hmp:(0:Int)<(r.mc:Int):=by have:=hr.mc;omega
  have hx2:=hc.lists.2.2.1 _ hxm;obtain⟨_,x1,x2,x3,x4,_⟩:=hc.ce hx2;rw[ex]at x1 x2 x3 x4;have lb:=hc.hd.lt;have le:=hc.en.lt;have g0:(0:Int)<=(r.h 2:Int):=by omega
  have g1:(r.h 2:Int)<2*(n:Int):=by omega
  have HC:=Hd hc;have HR:=Hd hr;have HXX:=Hd hx;have HEX:=Hd ex;have HPK1:=Hd hk1;have HGN:=Hd hgn;have HYY:=Hd hy;clear hc hr hx ex hk1 ho f1 eg hxm hgn hy;unfold testStep at st2 pk2;by_cases ht:y.test=true
  .rw[if_pos ht]at st2 pk2
   rw[ht]at x4;have HF0:=pa_fail HC.out HR.out HPK1.out HXX.out hn;rw[HEX.out]at HF0;by_cases hg:y.fr<0
   .rw[if_pos hg]at st2 pk2
    rw[show decide (y.fr<0)=true from by simpa using hg]at HF0;have HF:=Hd HF0
    have hgone:(st.ends (st.hd 2) y).gone<=n:=by
     have e1:st.ends (st.hd 2) y=st.less.drop (st.hd 2):=by unfold PrS.ends;rw[if_pos hg]
     have e2:=drop_gone (s:=st.less) (i:=st.hd 2) (x:=y) HYY.out;rw[if_pos hg]at e2;have e3:st.less.gone=st.gone:=rfl;have:=HPK1.out.ng;rw[e1];omega
    have S2:=Hd (test_stop st2 hgone);clear HF0 st2 pk2 ht hg q3 q4 HC HR HXX HEX HPK1 kp2 q1 HGN HYY hgone
    go_wp2_with fail
    refine HF.out.mono ?_;clear HF;rintro e w2⟨rfl,h2,f2⟩;have KEY:Hid (PA n b A w2 fin∧Fr (FPr A b) w w2):=⟨by rw[S2.out];exact h2,F1.out.trans f2 (fun i q=>.inl q)⟩;clear h2 f2 hlr;go_wp2;go_returns;exact⟨rfl,KEY.out⟩
   .rw[if_neg hg]at st2 pk2
    rw[show decide (y.fr<0)=false from by simpa using hg]at HF0;have HF:=Hd HF0;have S2:=Hd st2;have PK2:=Hd pk2;have hl2:0<(st.ends (st.hd 2) y).L.length:=by unfold PrS.ends;rw[if_neg hg];show 0<(st.L.set _ _).length;rw[List.length_set];exact hlen
    have GN2:Hid (n<((st.ends (st.hd 2) y).mv 2).gone):=by
     have e1:st.ends (st.hd 2) y=st.less.put (st.hd 2) {y with test:=false}:=by unfold PrS.ends;rw[if_neg hg]
     have e2:=put_gone (s:=st.less) (i:=st.hd 2) (x:=y) (y:={y with test:=false}) HYY.out rfl;have e3:st.less.gone=st.gone:=rfl;have e4:((st.ends (st.hd 2) y).mv 2).gone=(st.ends (st.hd 2) y).gone:=rfl;have:=HGN.out;unfold Hid;rw[e4,e1];omega
    clear HF0 st2 pk2 ht hg q3 q4 HC HR HXX HEX HPK1 kp2 q1 HGN HYY
    go_wp2_with fail
    refine HF.out.mono ?_;clear HF;rintro e w2⟨rfl,h2,f2⟩;have HM:=Hd (pa_move (j:=2) h2 hl2 (by omega));have F2:=Hd (F1.out.trans f2 (fun i q=>.inl q));clear h2 f2 hlr
    go_wp2_with fail
    refine HM.out.mono ?_;clear HM;rintro e w3⟨rfl,h3,f3⟩;have H3:=Hd h3;have F3:=Hd (F2.out.trans f3 (fun i q=>.inl q));clear h3 f3;go_wp2
    go_roundg g'
    case measure=>have:=hgk.out;omega
    case rel=>exact⟨_,H3.out,PK2.out,GN2.out,S2.out,F3.out⟩
  .have ht:y.test=false:=by simpa using ht
   rw[if_neg (by simp[ht])]at st2 pk2;rw[ht]at x4;have S2:=Hd st2;have PK2:=Hd pk2;have HM:=Hd (pa_move (j:=2) (⟨r,HC.out,HR.out⟩:PA n b A wr st) hlen (by omega));clear st2 pk2 ht q3 q4 HC HR HXX HEX HPK1 kp2 q1 HYY
   go_wp2_with fail
   refine HM.out.mono ?_;clear HM;rintro e w3⟨rfl,h3,f3⟩;have H3:=Hd h3;have F3:=Hd (F1.out.trans f3 (fun i q=>.inl q));clear h3 f3 hlr;go_wp2
   go_roundg g'
   case measure=>have:=hgk.out;omega
   case rel=>exact⟨_,H3.out,PK2.out,HGN.out,S2.out,F3.out⟩
end
section
variable{w w':World}{b n m:Nat}{A:AP}{r:Raw}{s:PrS}{i x f:Nat}{y:En}
theorem upd_updP{α:Type}(c:Nat->α)(i:Nat)(u v:α):upd (upd c i u) i v=upd c i v:=by
 funext j
 by_cases e:j=i
 .subst e;rw[upd_same,upd_same]
 .rw[upd_other _ _ e,upd_other _ _ e,upd_other _ _ e]
theorem pa_turn(h1:PC w b n A r)(h2:Rf n r s)(hk:PK n m s)(hx:r.ids[s.hd 1]?=some x)(hf:0<=(r.e x).fr)(hh:(r.e x).hot=false)(hn:n<=65535):
  Calls prog 251 #[.pointer (some ⟨b,0,none⟩),.int .i64 x] w fun e w'=>e=.returned (.tuple #[])∧PA n b A w' (s.turn n (s.hd 1) (r.e x))∧Fr (FPr A b) w w':=by
 have hi:=h2.get hx;have hxm:=List.mem_of_getElem? hx;have hx2:=h1.lists.2.2.1 x hxm;have hns:=h1.lists.2.2.2.2 x hxm;have hht:=h2.hot_le;obtain⟨pk1,kp1⟩:=turn_pre hk hi hf;have emv:(s.mv 1).drop (s.hd 1)=s.drop (s.hd 1):=mv_drop (get_lt hi);have c1:w.cell? ⟨b,1,none⟩=some (.slice (some ⟨A.eb,0,none⟩) (2*n) (2*n)):=h1.c 1 (by omega);have c8:w.cell? ⟨b,8,none⟩=some (.int .i64 (r.hot:Nat)):=h1.c 8 (by omega);obtain⟨_,x1,x2,x3,x4,_⟩:=h1.ce hx2;have fe:=fun i=>h1.en.frozen i
 have fb8:=h1.hd.frozen 8;have lb:=h1.hd.lt;have le:=h1.en.lt;obtain⟨n1,_,_,_,_,_,_⟩:=h1.lb.ne;have n1':¬b=A.eb:=fun e=>n1 e.symm
 have g0:(0:Int)<=(x:Int):=by omega
 have g1:(x:Int)<2*(n:Int):=by omega
 have g3:(r.hot:Int)<=140000:=by omega
 have hp3:∀t:Bool,(r.e x).test=t->PC (((w.setCell ⟨A.eb,x*6+3,none⟩ (.bool false)).setCell ⟨A.eb,x*6+2,none⟩ (.bool t)).setCell ⟨A.eb,x*6+4,none⟩ (.bool (!t))) b n A {r with e:=upd r.e x (r.e x).turn}:=by
  intro t et;have a1:=h1.setEn (r':={r with e:=upd r.e x {r.e x with ref:=false}}) (en_ref r.e r.v x false) rfl
  have a2:=a1.setEn (i:=x*6+2) (u:=.bool t) (r':={r with e:=upd r.e x {r.e x with ref:=false,hot:=t}}) (by
   have:=en_hot (upd r.e x {r.e x with ref:=false}) r.v x t;rw[upd_same,upd_updP]at this;exact this) rfl
  have a3:=a2.setEn (i:=x*6+4) (u:=.bool (!t)) (r':={r with e:=upd r.e x {r.e x with ref:=false,hot:=t,test:=!t}}) (by
   have:=en_test (upd r.e x {r.e x with ref:=false,hot:=t}) r.v x (!t);rw[upd_same,upd_updP]at this;exact this) rfl
  have:(r.e x).turn={r.e x with ref:=false,hot:=t,test:=!t}:=by unfold En.turn;rw[et]
  rw[this];exact a3
 have hf3:∀t:Bool,Fr (FPr A b) w (((w.setCell ⟨A.eb,x*6+3,none⟩ (.bool false)).setCell ⟨A.eb,x*6+2,none⟩ (.bool t)).setCell ⟨A.eb,x*6+4,none⟩ (.bool (!t))):=fun t=>
  (((Fr.refl (FPr A b) w).setCell (p:=⟨A.eb,x*6+3,none⟩) (.inl (.inr (.inl rfl))) _).setCell (p:=⟨A.eb,x*6+2,none⟩) (.inl (.inr (.inl rfl))) _).setCell (p:=⟨A.eb,x*6+4,none⟩) (.inl (.inr (.inl rfl))) _
 have HREST:Hid (∀(z:Nat) W,z+(if(r.e x).hot=true then 1 else 0)=r.hot+(if(r.e x).test=true then 1 else 0)->PC W b n A {r with e:=upd r.e x (r.e x).turn,hot:=z}->Fr (FPr A b) w W->
   Calls prog 258 #[.pointer (some ⟨b,0,none⟩),.int .i64 x] W fun e w'=>e=.returned (.tuple #[])∧PA n b A w' (((s.mv 1).drop (s.hd 1)).lay (r.e x).turn)∧Fr (FPr A b) w w'):=fun z W hz hW fW=>by
  have hl:=h2.rl.put hx (r.e x).turn;have hrl:=RL.leave (r:={r with e:=upd r.e x (r.e x).turn,hot:=z}) (s:=s.put (s.hd 1) (r.e x).turn) hl hx;refine(ck_again hW hxm ?_).mono fun e w' ⟨b1,b2,b3⟩=>⟨b1,⟨_,b2,by rw[emv];exact h2.turn hx hns hz⟩,fW.trans b3 (fun i q=>.inl (q.elim .inl (fun q=>.inr (.inr (.inr (.inr q))))))⟩
  rcases hrl.hd with q|q
  .exact .inl q
  .exact .inr (List.mem_of_getElem? (q 0 (by omega)))
 have HCOOL:Hid (∀W,PA n b A W (((s.mv 1).drop (s.hd 1)).lay (r.e x).turn)->Calls prog 244 #[.pointer (some ⟨b,0,none⟩)] W fun e w'=>e=.returned (.tuple #[])∧PA n b A w' (s.turn n (s.hd 1) (r.e x))∧Fr (FPr A b) W w'):=fun W hW=>pa_cool hW pk1 hn
 generalize ht:(r.e x).test=t at*
 cases t
 .have HZ:=Hd (HREST.out r.hot _ (by simp[hh]) (hp3 false rfl) (hf3 false))
  clear hp3 hf3 HREST h1 h2 hk hx hi hxm hns pk1 kp1 emv hf;rw[hh]at x2;clear hh ht;go_enter func251,ntmps251
  go_wp2_with fail
  refine HZ.out.mono ?_;clear HZ;rintro e w2⟨rfl,h3,f3⟩;have HC2:=Hd (HCOOL.out _ h3);have F3:=Hd f3;clear h3 f3 HCOOL c1 c8 x1 x2 x3 x4 fe
  go_wp2_with fail
  refine HC2.out.mono ?_;clear HC2;rintro e w4⟨rfl,h4,f4⟩;have KEY:=Hd (And.intro h4 (F3.out.trans f4 (fun i q=>.inl q)));clear h4 f4;go_wp2;go_returns;exact⟨rfl,KEY.out⟩
 .have a4:=(hp3 true rfl).setHead (i:=8) (u:=.int .i64 ((r.hot+1:Nat):Int)) (r':={r with e:=upd r.e x (r.e x).turn,hot:=r.hot+1}) (prH_hot _ _ _ _ _) rfl
  have f4:=(hf3 true).setCell (p:=⟨b,8,none⟩) (.inl (.inl rfl)) (.int .i64 ((r.hot+1:Nat):Int));have e8:((r.hot+1:Nat):Int)=(r.hot:Int)+1:=by omega
  rw[e8]at a4 f4;have HZ:=Hd (HREST.out (r.hot+1) _ (by simp[hh]) a4 f4);clear hp3 hf3 HREST h1 h2 hk hx hi hxm hns pk1 kp1 emv hf a4 f4 e8;rw[hh]at x2;clear hh ht;go_enter func251,ntmps251
  go_wp2_with fail
  refine HZ.out.mono ?_;clear HZ;rintro e w2⟨rfl,h3,f3⟩;have HC2:=Hd (HCOOL.out _ h3);have F3:=Hd f3;clear h3 f3 HCOOL c1 c8 x1 x2 x3 x4 fe
  go_wp2_with fail
  refine HC2.out.mono ?_;clear HC2;rintro e w4⟨rfl,h4,f4⟩;have KEY:=Hd (And.intro h4 (F3.out.trans f4 (fun i q=>.inl q)));clear h4 f4;go_wp2;go_returns;exact⟨rfl,KEY.out⟩
theorem pr_remember(h:PC w b n A r)(hx2:x<2*n)(hu:(r.e x).pg<4294967296)(hno:r.mp ((r.e x).pg:Nat)=none)(hc:r.mc<=200000):
  Calls prog 259 #[.pointer (some ⟨b,0,none⟩),.int .i64 x] w fun e w'=>e=.returned (.tuple #[])∧PC w' b n A (r.told x)∧Fr (FPr A b) w w':=by
 have c1:w.cell? ⟨b,1,none⟩=some (.slice (some ⟨A.eb,0,none⟩) (2*n) (2*n)):=h.c 1 (by omega);have c6:w.cell? ⟨b,6,none⟩=some (.map (some A.mb)):=h.c 6 (by omega);obtain⟨x0,_,_,_,_,_⟩:=h.ce hx2;have hwf:=wfU hu;have hlk:=h.mp.look_ok_run MVg (x:=((r.e x).pg:Nat)) hwf;have hmpn:mpF r.mp ((r.e x).pg:Nat)=none:=by unfold mpF;rw[hno];rfl
 rw[hmpn]at hlk;simp only[Option.getD_none,Option.isSome_none]at hlk;obtain⟨w2,hrun,m1,f1⟩:=h.mp.put_run MVg (by omega) (x:=((r.e x).pg:Nat)) hwf (.int .i64 (x:Nat));rw[hmpn]at m1;simp only[Option.isSome_none,Bool.false_eq_true,if_false]at m1;rw[show some (Value.int .i64 (x:Nat))=(some x).map fun(x:Nat)=>Value.int .i64 (x:Nat)from rfl,mpF_upd]at m1;have KEY:Hid (PC w2 b n A (r.told x)∧Fr (FPr A b) w w2):=⟨h.setMp m1 f1,f1.mono (fun i q=>.inr (.inr (.inr (.inl q))))⟩;have g0:(0:Int)<=(x:Int):=by omega
 have g1:(x:Int)<2*(n:Int):=by omega
 have lb:=h.hd.lt;have le:=h.en.lt;clear h hmpn m1 f1 hno hu;go_enter func259,ntmps259;go_wp2;go_returns;exact⟨rfl,KEY.out⟩
end
end
end Go.Proofs.YtoenclhimbpfeaaGreatDoor
