/- Part 33. -/
import Derived.Test.YtoenclhimbpfeaaGreatDoorC32
namespace Go.Proofs.YtoenclhimbpfeaaGreatDoor
set_option linter.all false
set_option maxHeartbeats 16000000
set_option maxRecDepth 100000
section
open Go.Maps Go.Proofs.Tryz Go.RowKit
section
variable{w w':World}{b n m:Nat}{A:AP}{r:Raw}{s:PrS}{i x f:Nat}{y:En}
theorem tests_small(h:s.gone<=n):s.tests n=s:=by
 have hex:∃p:Nat×PrS,testO n p.1 s=some p.2:=⟨(1,s),by rw[testO,if_pos h]⟩;have:s.tests n=hex.choose.2:=by unfold PrS.tests;rw[dif_pos hex]
 rw[this];exact test_stop hex.choose_spec h
theorem send_mv(s:PrS)(i f:Nat)(y:En):((s.mv 1).empty f).put i y=((s.empty f).put i y).mv 1:=by
 unfold PrS.mv PrS.empty PrS.put;simp only[List.length_set]
theorem pa_send(h1:PC w b n A r)(h2:Rf n r s)(hk:PK n n s)(hm:PM n s)(hx:r.ids[s.hd 1]?=some x)(hf:(r.e x).fr=(f:Int))(hrf:(r.e x).ref=false)(hn:n<=65535):
  Calls prog 252 #[.pointer (some ⟨b,0,none⟩),.int .i64 x] w fun e w'=>e=.returned (.int .i64 f)∧PA n b A w' (s.send n (s.hd 1) (r.e x))∧Fr (FPr A b) w w':=by
 have hi:=h2.get hx;have hxm:=List.mem_of_getElem? hx;have hx2:=h1.lists.2.2.1 x hxm;obtain⟨q1,q2,_,_⟩:=hk.el _ (mem_get hi);have hfn:f<n:=by omega
 have hto:(r.e x).fr.toNat=f:=by omega
 have emv:(s.mv 1).drop (s.hd 1)=s.drop (s.hd 1):=mv_drop (get_lt hi);have c1:w.cell? ⟨b,1,none⟩=some (.slice (some ⟨A.eb,0,none⟩) (2*n) (2*n)):=h1.c 1 (by omega);obtain⟨_,x1,_,_,x4,_⟩:=h1.ce hx2;rw[hf]at x1;have lb:=h1.hd.lt;have le:=h1.en.lt;have g0:(0:Int)<=(x:Int):=by omega
 have g1:(x:Int)<2*(n:Int):=by omega
 by_cases ht:(r.e x).test=true
 .obtain⟨sp1,sp2⟩:=send_pre hk hm hi (by omega) hrf ht
  rw[hto]at sp1 sp2;have hS:s.send n (s.hd 1) (r.e x)=(((s.mv 1).empty f).put (s.hd 1) {r.e x with fr:= -1}).tests n:=by unfold PrS.send;rw[if_pos ht,hto]
  rw[hS];have hlv:=(h2.leaves hk hx hf).move 1;rw[<-send_mv]at hlv;have hno:=h2.mp_none hk hx (by omega);obtain⟨a1,a2,a3,a4,a5⟩:=setV_e (r:=r) x false;obtain⟨b1,b2,b3,b4⟩:=setV_ids (r:=r) x false;have HE:=Hd (pr_empty h1 hfn (h2.fm2 f hfn x hxm hf) hx2 (fun q=>h2.size_pos hxm q) (by have:=h2.size_le;omega))
  have hhd:(r.empty f x).h 1∈(r.empty f x).ids:=by
   show(r.setV x false).h 1∈(r.setV x false).ids
   rw[a3,a4];have:=h2.rl.hands (j:=1) (by omega) (fun c=>by rw[c]at hx;cases hx);exact List.mem_of_getElem? this
  have HM:Hid (∀W,PC W b n A (r.empty f x)->Calls prog 253 #[.pointer (some ⟨b,0,none⟩),.int .i64 1] W fun e w'=>e=.returned (.tuple #[])∧PC w' b n A ((r.empty f x).move 1)∧Fr (fun i=>i=b) W w'):=fun W hW=>ck_move (j:=1) hW (by omega) hhd
  have HR:Hid (∀W,PC W b n A ((r.empty f x).move 1)->Calls prog 259 #[.pointer (some ⟨b,0,none⟩),.int .i64 x] W fun e w'=>e=.returned (.tuple #[])∧PC w' b n A (((r.empty f x).told x).move 1)∧Fr (FPr A b) W w'):=fun W hW=>by
   have ee:((r.empty f x).move 1).e x={r.e x with fr:= -1}:=by show upd r.e x _ x=_;rw[upd_same]
   exact pr_remember hW hx2 (by rw[ee];exact q2.2) (by rw[ee];show(r.setV x false).mp _=none;rw[a5];exact hno) (by
    show(r.setV x false).mc<=_
    rw[b4,h2.mc];have:=List.countP_le_length (p:=fun e:En=>decide (e.fr<0)) (l:=s.L);have:=h2.len;have:=h2.tot;unfold PrS.gone;omega)
  have HLV:=Hd hlv;have SP1:=Hd sp1;rw[ht]at x4;clear hi hxm q1 q2 hto emv sp1 sp2 hS hlv hno a1 a2 a3 a4 a5 b1 b2 b3 b4 hhd hk hm hx hf hrf ht h1 h2;generalize((s.mv 1).empty f).put (s.hd 1) {r.e x with fr:= -1}=s1 at*;generalize((r.empty f x).told x).move 1=r1 at*;go_enter func252,ntmps252
  go_wp2_with fail
  refine HE.out.mono ?_;clear HE c1 x1 x4;rintro e w1⟨rfl,h3,f3⟩;have HM1:=Hd (HM.out _ h3);have F3:=Hd f3;clear h3 f3 HM
  go_wp2_with fail
  refine HM1.out.mono ?_;clear HM1;rintro e w2⟨rfl,h4,f4⟩;have HR1:=Hd (HR.out _ h4);have F4:=Hd (F3.out.trans f4 (fun i q=>.inl (.inl q)));clear h4 f4 HR F3
  go_wp2_with fail
  refine HR1.out.mono ?_;clear HR1;rintro e w3⟨rfl,h5,f5⟩;have HA:Hid (PA n b A w3 s1):=⟨r1,h5,HLV.out⟩;have F5:=Hd (F4.out.trans f5 (fun i q=>.inl q));clear h5 f5 HLV F4
  go_wp2_with fail
  go_loopg [] 1 (fun g wr=>∃st,PA n b A wr st∧PK n (n+1) st∧st.tests n=s1.tests n∧(g=0->st.gone<=n)∧Fr (FPr A b) w wr)
  case atStart=>exact⟨s1,HA.out,SP1.out,rfl,fun q=>by omega,F5.out⟩
  case round=>
   obtain⟨st,h6,hk6,e6,z6,f6⟩:=hrel;obtain⟨r6,hc,hr⟩:=h6;clear HA F5 SP1;have F6:=Hd f6;have c6:wr.cell? ⟨b,6,none⟩=some (.map (some A.mb)):=hc.c 6 (by omega);have c5:wr.cell? ⟨b,5,none⟩=some (.slice (some ⟨A.fb,0,none⟩) n n):=hc.c 5 (by omega);have hlr:∀d,(Builtin.len_ #[111] 3 #[.map (some A.mb)]).run prog (wr.drewN d)=.ok (.int .i64 r6.mc) (wr.drewN d):=fun d=>MpV.len_run MVg (hc.fr0 ((Fr.refl NoF wr).drewN d)).mp 3
   have lb:=hc.hd.lt;by_cases hz:st.gone<=n
   .have hle:(r6.mc:Int)<=(n:Int):=by have:=hr.mc;omega
    have KEY:Hid (PA n b A wr (s1.tests n)∧Fr (FPr A b) w wr):=⟨by rw[<-e6,tests_small hz];exact⟨r6,hc,hr⟩,f6⟩;clear hz hc hr hk6 e6 z6 f6 F6
    go_wp2_with fail
    go_quiet (fail)
    go_wp2;go_returns;exact⟨rfl,KEY.out.1.fr0 (by repeat(first|exact Fr.refl NoF _|apply Fr.drew|apply Fr.drewN)),KEY.out.2.trans (G:=NoF) (by repeat(first|exact Fr.refl NoF _|apply Fr.drew|apply Fr.drewN)) (fun _ q=>q.elim)⟩
   .have hle:(n:Int)<(r6.mc:Int):=by have:=hr.mc;omega
    have hgk:0<gk:=by
     rcases Nat.eq_zero_or_pos gk with q|q
     .exact(hz (z6 q)).elim
     .exact q
    obtain⟨_,t1,t2⟩:=tests_ok hk6;have PK2:Hid (PK n (n+1) (st.tests n)):=t1.le (by have:=t1.ng;omega);have E2:Hid ((st.tests n).tests n=s1.tests n):=by unfold Hid;rw[tests_small t1.ng];exact e6
    have G2:=Hd t1.ng;have HW:Hid (∀W,Fr NoF wr W->Calls prog 260 #[.pointer (some ⟨b,0,none⟩)] W fun e w'=>e=.returned (.tuple #[])∧PA n b A w' (st.tests n)∧Fr (FPr A b) W w'):=fun W g=>pa_workTest (⟨r6,hc.fr0 g,hr⟩:PA n b A W st) hk6 (by omega) hn
    clear hz hc hr hk6 e6 z6 f6 t1 t2
    go_wp2_with fail
    go_quiet (fail)
    clear hlr
    go_wp2_with fail
    refine(HW.out _ (by repeat(first|exact Fr.refl NoF _|apply Fr.drew|apply Fr.drewN))).mono ?_;clear HW;rintro e w7⟨rfl,h7,f7⟩;have H7:=Hd h7;have F7:Hid (Fr (FPr A b) w w7):=(F6.out.trans (G:=NoF) (by repeat(first|exact Fr.refl NoF _|apply Fr.drew|apply Fr.drewN)) (fun _ q=>q.elim)).trans f7 (fun i q=>.inl q);clear h7 f7;go_wp2
    go_roundg 0
    case measure=>omega
    case rel=>exact⟨_,H7.out,PK2.out,E2.out,fun _=>G2.out,F7.out⟩
 .have hS:s.send n (s.hd 1) (r.e x)=(s.empty f).drop (s.hd 1):=by
   have e1:s.send n (s.hd 1) (r.e x)=((s.mv 1).empty f).drop (s.hd 1):=by unfold PrS.send;rw[if_neg ht,hto]
   have e2:((s.mv 1).empty f).drop (s.hd 1)=((s.mv 1).drop (s.hd 1)).empty f:=rfl;rw[e1,e2,emv];rfl
  rw[hS];have ht:(r.e x).test=false:=by simpa using ht
  rw[ht]at x4;have HR:=Hd (pa_remove (⟨r,h1,h2⟩:PA n b A w s) hk hi hf hn);clear hi hxm q1 q2 hto emv hS hk hm hx hf hrf ht h1 h2;go_enter func252,ntmps252
  go_wp2_with fail
  refine HR.out.mono ?_;clear HR;rintro e w1⟨rfl,h3,f3⟩;have KEY:=Hd (And.intro h3 f3);clear h3 f3;go_wp2;go_returns;exact⟨rfl,KEY.out⟩
theorem rot_get{j k:Nat}(hj:s.hd j<s.L.length)(hk:k<s.L.length):(s.rot j)[k]?=s.L[(s.hd j+k)%s.L.length]?:=by
 unfold PrS.rot;by_cases e:s.hd j+k<s.L.length
 .rw[Nat.mod_eq_of_lt e,List.getElem?_append_left (by rw[List.length_drop];omega),List.getElem?_drop]
 .rw[List.getElem?_append_right (by rw[List.length_drop];omega),List.length_drop,List.getElem?_take,if_pos (by omega)]
  congr 1
  rw[Nat.mod_eq_sub_mod (by omega),Nat.mod_eq_of_lt (by omega)];omega
theorem pa_first(h:PA n b A w s)(hk:PK n m s)(hm:PM n s)(hz:¬s.sizeN n=0):Calls prog 254 #[.pointer (some ⟨b,0,none⟩)] w fun e w'=>e=.returned (.int .i64 s.first)∧∃d,w.drewN d=w':=by
 obtain⟨r,h1,h2⟩:=h;obtain⟨e0,he0,hfind,hfirst,hf0,_,_,_⟩:=first_ok hk hm hz;have hlen:0<s.L.length:=List.length_pos_of_mem he0;have hd1:=hk.lt hlen (j:=1) (by omega);obtain⟨hgo,xs1,ys1,hrot,has⟩:=List.find?_eq_some_iff_append.1 hfind;have hrl:(s.rot 1).length=s.L.length:=by unfold PrS.rot;rw[List.length_append,List.length_drop,List.length_take];omega
 have hal:xs1.length<s.L.length:=by rw[<-hrl,hrot];simp
 have hle:=h2.len;have hne:¬r.ids=[]:=fun c=>by rw[c]at hle;simp at hle;rw[hle]at hlen;simp at hlen
 have HAT:Hid (∀k,k<=xs1.length->∃x,r.ids[(s.hd 1+k)%s.L.length]?=some x∧x<2*n∧x∈r.ids∧r.v x=(decide (k=xs1.length))∧(k=xs1.length->(r.e x).fr=(s.first:Int))):=by
  intro k hka;have hlt:(s.hd 1+k)%s.L.length<r.ids.length:=by rw[<-hle];exact Nat.mod_lt _ hlen
  refine⟨r.ids[(s.hd 1+k)%s.L.length],List.getElem?_eq_getElem hlt,h1.lists.2.2.1 _ (List.getElem_mem hlt),List.getElem_mem hlt,?_,?_⟩
  .have hg:=h2.get (List.getElem?_eq_getElem hlt)
   rw[<-rot_get hd1 (by omega),hrot]at hg;rw[h2.v _ (List.getElem_mem hlt)];by_cases c:k=xs1.length
   .subst c
    rw[List.getElem?_append_right (Nat.le_refl _),Nat.sub_self]at hg;simp only[List.getElem?_cons_zero,Option.some.injEq]at hg;rw[<-hg,hgo];simp
   .rw[List.getElem?_append_left (by omega)]at hg
    have:=has _ (List.mem_of_getElem? hg);simp only[Bool.not_eq_true']at this;rw[this];simp[c]
  .rintro rfl
   have hg:=h2.get (List.getElem?_eq_getElem hlt);rw[<-rot_get hd1 (by omega),hrot,List.getElem?_append_right (Nat.le_refl _),Nat.sub_self]at hg;simp only[List.getElem?_cons_zero,Option.some.injEq]at hg;rw[<-hg,hfirst];omega
 have HN:Hid (∀k x,r.ids[(s.hd 1+k)%s.L.length]?=some x->r.ids[(s.hd 1+(k+1))%s.L.length]?=some (nxt r.ids x)):=by
  intro k x hx;have:=nxt_at h2.rl.nd hx;rw[<-hle,Nat.mod_add_mod]at this;rw[<-Nat.add_assoc];exact this
 have H1:=Hd h1
 have HX0:Hid (r.ids[(s.hd 1+0)%s.L.length]?=some (r.h 1)):=by
  unfold Hid;rw[Nat.add_zero,Nat.mod_eq_of_lt hd1];exact h2.rl.hands (by omega) hne
 have c3:w.cell? ⟨b,3,none⟩=some (.int .i64 (r.h 1:Nat)):=h1.hand (j:=1) (by omega);clear h1 h2 hk hm hz he0 hfind hfirst hf0 hlen hd1 hgo hrot has hrl hal hle hne;generalize xs1.length=al at*;generalize s.first=fi at*;generalize s.L.length=sl at*;generalize s.hd 1=hd at*;go_enter func254,ntmps254
 go_wp2_with fail
 go_loopg [3] al (fun g v wr=>∃k x:Nat,k<=al∧g=al-k∧v=.int .i64 x∧r.ids[(hd+k)%sl]?=some x∧∃d,w.drewN d=wr)
 case atStart=>exact⟨0,r.h 1,Nat.zero_le _,by omega,rfl,HX0.out,0,rfl⟩
 case round=>
  obtain⟨k,x,hka,hg,rfl,hx,d,rfl⟩:=hrel;have HG:=Hd hg;obtain⟨x',hx',hx2,hxm,hv,hfr⟩:=HAT.out k hka;rw[hx]at hx';simp only[Option.some.injEq]at hx';subst hx';have hc:PC (w.drewN d) b n A r:=H1.out.fr0 ((Fr.refl NoF w).drewN d);have c1:(w.drewN d).cell? ⟨b,1,none⟩=some (.slice (some ⟨A.eb,0,none⟩) (2*n) (2*n)):=hc.c 1 (by omega);obtain⟨_,x1,_,_,_,x5⟩:=hc.ce hx2;have g0:(0:Int)<=(x:Int):=by omega
  have g1:(x:Int)<2*(n:Int):=by omega
  have HNX:=Hd (HN.out k x hx);by_cases c:k=al
  .rw[hv,show decide (k=al)=true from by simpa using c]at x5
   rw[hfr c]at x1;clear hx hxm hv hfr hc hg c c3;go_wp2;go_returns;exact⟨rfl,d,rfl⟩
  .rw[hv,show decide (k=al)=false from by simpa using c]at x5
   have HNE:=Hd (ck_next hc hxm);have HKA:Hid (k<al):=by unfold Hid;omega
   clear hx hxm hv hfr hc hg c c3
   go_wp2_with fail
   refine HNE.out.mono ?_;clear HNE;rintro e w2⟨rfl,d2,rfl⟩;go_wp2
   go_roundg (al-(k+1))
   case measure=>have:=HG.out;have:=HKA.out;omega
   case rel=>exact⟨k+1,_,HKA.out,rfl,rfl,HNX.out,d+d2,by first|rfl|rw[World.drewN_drewN]⟩
end
def resF(V:PrS×Option Nat):Nat:=match V.2 with
 |some f=>f
 |none=>V.1.first
def resS(V:PrS×Option Nat):PrS:=match V.2 with
 |some _=>V.1
 |none=>V.1.rem V.1.first
section
variable{w w':World}{b n m:Nat}{A:AP}{r:Raw}{s:PrS}{i x f:Nat}{y:En}
theorem vic_step{k:Nat}{st:PrS}(hy:st.L[st.hd 1]?=some y):vicL n (k+1) st=if st.idle y=true then vicL n k (st.mv 1)else if y.ref=true then vicL n k (st.turn n (st.hd 1) y)else(st.send n (st.hd 1) y,some y.fr.toNat):=by
 rw[vicL];simp only[hy]
theorem kept_size{st st':PrS}(k:Kept st st'):st'.sizeN n=st.sizeN n:=by unfold PrS.sizeN;rw[k.pg,k.on]
theorem pa_victim_no(h:PA n b A w s)(hk:PK n m s)(hm:PM n s)(hz:s.sizeN n=0)(p:Int):Calls prog 243 #[.pointer (some ⟨b,0,none⟩),.int .u32 p] w fun e w'=>e=.returned (.tuple #[.int .i64 0,.bool false])∧w=w':=by
 obtain⟨r,h1,h2⟩:=h;have hs:=pr_size h1;rw[h2.size,<-size_eq hk hm,hz]at hs;have HS:=Hd hs;clear h1 h2 hk hm hz hs;go_enter func243,ntmps243
 go_wp2_with(go_at_call 242;refine HS.out.mono ?_;rintro e w'⟨rfl,rfl⟩)
 go_returns;exact⟨rfl,rfl⟩
theorem pa_victim_yes(h:PA n b A w s)(hk:PK n n s)(hm:PM n s)(hz:¬s.sizeN n=0)(hn:n<=65535)(p:Int):Calls prog 243 #[.pointer (some ⟨b,0,none⟩),.int .u32 p] w fun e w'=>e=.returned (.tuple #[.int .i64 (resF (s.vic n):Nat),.bool true])∧PA n b A w' (resS (s.vic n))∧Fr (FPr A b) w w':=by
 have H:=Hd h;obtain⟨r,h1,h2⟩:=h;have HS:=Hd (pr_size h1);have hs0:0<(r.size:Int):=by have:=size_eq hk hm;have:=h2.size;omega
 have HL:=Hd (ck_len h1);have hlen:=h2.len;have hll:r.ids.length<=140000:=by have:=h2.tot;omega
 have HV0:Hid (vicL n (4*r.ids.length+4) s=s.vic n):=by unfold Hid PrS.vic;rw[hlen]
 have HK:=Hd hk;have HM:=Hd hm;have HZ:=Hd hz;clear h1 h2 hk hm hz hlen;generalize r.size=sz at*;generalize r.ids.length=len at*;generalize s.vic n=V at*;have hne:((sz:Int)==0)=false:=by simp;omega
 go_enter func243,ntmps243
 go_wp2_with(first
  |(go_at_call 242;refine HS.out.mono ?_;rintro e w'⟨rfl,rfl⟩)
  |(go_at_call 250;refine HL.out.mono ?_;rintro e w'⟨rfl,rfl⟩)
  |fail)
 clear HS HL hne hs0;obtain⟨T,hT⟩:∃T,4*len+4=T:=⟨_,rfl⟩;rw[hT]at HV0;have HT:=Hd hT;clear hT
 go_loopg [18] T (fun g v wr=>∃(j:Nat) (st:PrS),j<=T∧g=T-j∧v=.int .i64 j∧PA n b A wr st∧PK n n st∧PM n st∧(¬st.sizeN n=0)∧vicL n (T-j) st=V∧Fr (FPr A b) w wr)
 case atStart=>exact⟨0,s,Nat.zero_le _,by omega,rfl,H.out,HK.out,HM.out,HZ.out,HV0.out,Fr.refl _ _⟩
 case round=>
  obtain⟨j,st,hj,hg,rfl,h1,hk1,hm1,hz1,hv,f1⟩:=hrel;have HG:=Hd hg;have F1:=Hd f1;clear H HK HM HZ HV0 hg f1;by_cases hlt:j<T
  .obtain⟨r1,hc,hr⟩:=h1
   have hlp:0<st.L.length:=by
    obtain⟨e0,he0,_⟩:=first_ok hk1 hm1 hz1;exact List.length_pos_of_mem he0
   obtain⟨y,hy⟩:=hk1.at hlp (j:=1) (by omega);obtain⟨hxm,hx,ex⟩:=hr.rl.at (j:=1) (by omega) hy;obtain⟨q1,q2,q3,q4⟩:=hk1.el y (mem_get hy);have hJ:(j:Int)<4*(len:Int)+4:=by have:=HT.out;omega
   have hj0:j<=900000:=by have:=HT.out;omega
   have ek:T-j=(T-(j+1))+1:=by omega
   rw[ek,vic_step hy]at hv;have c1:wr.cell? ⟨b,1,none⟩=some (.slice (some ⟨A.eb,0,none⟩) (2*n) (2*n)):=hc.c 1 (by omega);have c3:wr.cell? ⟨b,3,none⟩=some (.int .i64 (r1.h 1:Nat)):=hc.hand (j:=1) (by omega);have hx2:=hc.lists.2.2.1 _ hxm;obtain⟨_,_,x2,x3,_,x5⟩:=hc.ce hx2;rw[hr.v _ hxm,ex]at x5;rw[ex]at x2 x3;have lb:=hc.hd.lt;have le:=hc.en.lt;have g0:(0:Int)<=(r1.h 1:Int):=by omega
   have g1:(r1.h 1:Int)<2*(n:Int):=by omega
   have HMV:=Hd (pa_move (j:=1) (⟨r1,hc,hr⟩:PA n b A wr st) hlp (by omega));have KMV:Hid (PK n n (st.mv 1)∧PM n (st.mv 1)∧¬(st.mv 1).sizeN n=0):=⟨hk1.mv hlp 1,hm1.of rfl rfl (fun _ _=>Iff.rfl),hz1⟩;have HLT:=Hd hlt;clear hj hll ek;by_cases hh:y.hot=true
   .have hid:st.idle y=true:=by unfold PrS.idle;rw[hh];rfl
    rw[if_pos hid]at hv;rw[hh]at x2;have HV:=Hd hv;clear hv hid hh q1 q2 q3 q4 hx hxm ex hy hc hr hk1 hm1 hz1 hlt x3 x5
    go_wp2_with fail
    refine HMV.out.mono ?_;clear HMV;rintro e w2⟨rfl,h3,f3⟩;have H3:=Hd h3;have F3:=Hd (F1.out.trans f3 (fun i q=>.inl q));clear h3 f3;go_wp2
    go_roundg (T-(j+1))
    case measure=>have:=HG.out;have:=HLT.out;omega
    case rel=>exact⟨j+1,_,HLT.out,rfl,by go_num,H3.out,KMV.out.1,KMV.out.2.1,KMV.out.2.2,HV.out,F3.out⟩
   .have hh:y.hot=false:=by simpa using hh
    rw[hh]at x2;by_cases hrf:y.ref=true
    .rw[hrf]at x3
     have hf0:0<=y.fr:=by
      rcases Int.lt_or_le y.fr 0 with c|c
      .have:=(q3 c).2;rw[hrf]at this;cases this
      .exact c
     have hid:¬st.idle y=true:=by unfold PrS.idle;rw[hh,hrf];simp;omega
     rw[if_neg hid,if_pos hrf]at hv;have HT0:=pa_turn hc hr hk1 hx (by rw[ex];exact hf0) (by rw[ex];exact hh) hn;rw[ex]at HT0;have HT:=Hd HT0;obtain⟨t1,t2⟩:=turn_ok hk1 hy hf0;have KT:Hid (PK n n (st.turn n (st.hd 1) y)∧PM n (st.turn n (st.hd 1) y)∧¬(st.turn n (st.hd 1) y).sizeN n=0):=⟨t1,hm1.kept t2,by rw[kept_size t2];exact hz1⟩;have HV:=Hd hv;clear hv hid hh hrf hf0 q1 q2 q3 q4 hx hxm ex hy hc hr hk1 hm1 hz1 hlt x5 HT0 t1 t2 HMV KMV
     go_wp2_with fail
     refine HT.out.mono ?_;clear HT;rintro e w2⟨rfl,h3,f3⟩;have H3:=Hd h3;have F3:=Hd (F1.out.trans f3 (fun i q=>.inl q));clear h3 f3;go_wp2
     go_roundg (T-(j+1))
     case measure=>have:=HG.out;have:=HLT.out;omega
     case rel=>exact⟨j+1,_,HLT.out,rfl,by go_num,H3.out,KT.out.1,KT.out.2.1,KT.out.2.2,HV.out,F3.out⟩
    .have hrf:y.ref=false:=by simpa using hrf
     rw[hrf]at x3;by_cases hgo:st.mayGo y=true
     .rw[hgo]at x5
      have hgo2:=hgo;unfold PrS.mayGo at hgo2;simp only[Bool.and_eq_true,decide_eq_true_eq]at hgo2;have hid:¬st.idle y=true:=by unfold PrS.idle;rw[hh,hrf,hgo2.2];simp;omega
      rw[if_neg hid,if_neg (by simp[hrf])]at hv;obtain⟨f,hf⟩:=Int.eq_ofNat_of_zero_le hgo2.1;have HS0:=pa_send hc hr hk1 hm1 hx (by rw[ex];exact hf) (by rw[ex];exact hrf) hn;rw[ex]at HS0;have HSD:=Hd HS0
      have HRF:Hid (resF V=f):=by
       unfold Hid resF;rw[<-hv]
       show y.fr.toNat=f
       rw[hf];rfl
      have HRS:Hid (resS V=st.send n (st.hd 1) y):=by
       unfold Hid resS;rw[<-hv]
      clear hv hid hh hrf hgo hgo2 q1 q2 q3 q4 hx hxm ex hy hc hr hk1 hm1 hz1 hlt HS0 HMV KMV hf
      go_wp2_with fail
      refine HSD.out.mono ?_;clear HSD;rintro e w2⟨rfl,h3,f3⟩;have KEY:=Hd (And.intro h3 (F1.out.trans f3 (fun i q=>.inl q)));clear h3 f3;go_wp2;go_returns;exact⟨by rw[HRF.out];rfl,by rw[HRS.out];exact KEY.out.1,KEY.out.2⟩
     .have hgo:st.mayGo y=false:=by simpa using hgo
      rw[hgo]at x5
      have hid:st.idle y=true:=by
       unfold PrS.mayGo at hgo;unfold PrS.idle;rw[hh,hrf];by_cases c:y.fr<0
       .simp[c]
       .have c2:0<=y.fr:=by omega
        rw[show decide (0<=y.fr)=true from by simpa using c2]at hgo;simp at hgo;simp[hgo]
      rw[if_pos hid]at hv;have HV:=Hd hv;clear hv hid hh hrf hgo q1 q2 q3 q4 hx hxm ex hy hc hr hk1 hm1 hz1 hlt
      go_wp2_with fail
      refine HMV.out.mono ?_;clear HMV;rintro e w2⟨rfl,h3,f3⟩;have H3:=Hd h3;have F3:=Hd (F1.out.trans f3 (fun i q=>.inl q));clear h3 f3;go_wp2
      go_roundg (T-(j+1))
      case measure=>have:=HG.out;have:=HLT.out;omega
      case rel=>exact⟨j+1,_,HLT.out,rfl,by go_num,H3.out,KMV.out.1,KMV.out.2.1,KMV.out.2.2,HV.out,F3.out⟩
  .obtain rfl:j=T:=by omega
   rw[Nat.sub_self,vicL]at hv;have HF:=Hd (pa_first h1 hk1 hm1 hz1)
   obtain⟨p1,p2⟩:st.first<n∧¬st.pg st.first=0:=by
    obtain⟨_,_,_,_,_,p1,p2,_⟩:=first_ok hk1 hm1 hz1;exact⟨p1,p2⟩
   obtain⟨i,y,ei,hy,hyf⟩:=ofF_of hm1 p1 p2;have HRF:Hid (resF V=st.first):=by unfold Hid resF;rw[<-hv]
   have HRS:Hid (resS V=(st.empty st.first).drop i):=by
    unfold Hid resS;rw[<-hv]
    show st.rem st.first=_
    unfold PrS.rem;rw[ei]
   have HRM:Hid (∀W,Fr NoF wr W->Calls prog 240 #[.pointer (some ⟨b,0,none⟩),.int .i64 (st.first:Nat)] W fun e w'=>e=.returned (.tuple #[])∧PA n b A w' ((st.empty st.first).drop i)∧Fr (FPr A b) W w'):=fun W g=>pa_remove (h1.fr0 g) hk1 hy hyf hn
   have hJ:4*(len:Int)+4<=(j:Int):=by have:=HT.out;omega
   clear hv h1 hk1 hm1 hz1 p1 p2 ei hy hyf hj hlt hll;generalize st.first=fi at*
   go_wp2_with fail
   (with_reducible refine HF.out.mono ?_)
   clear HF;rintro e w2⟨rfl,d,rfl⟩
   go_wp2_with fail
   refine(HRM.out _ (by repeat(first|exact Fr.refl NoF _|apply Fr.drew|apply Fr.drewN))).mono ?_;clear HRM;rintro e w3⟨rfl,h3,f3⟩;have KEY:Hid (PA n b A w3 ((st.empty fi).drop i)∧Fr (FPr A b) w w3):=⟨h3,(F1.out.trans (G:=NoF) (by repeat(first|exact Fr.refl NoF _|apply Fr.drew|apply Fr.drewN)) (fun _ q=>q.elim)).trans f3 (fun i q=>.inl q)⟩;clear h3 f3;go_wp2;go_returns;exact⟨by rw[HRF.out];rfl,by rw[HRS.out];exact KEY.out.1,KEY.out.2⟩
end
section
variable{w w':World}{b n m:Nat}{A:AP}{r:Raw}{s:PrS}{i x f id:Nat}{y:En}
theorem pa_set(h:PA n b A w s)(hk:PK n m s)(hi:s.L[i]?=some y)(hf:y.fr=(f:Int))(u:Bool)(hn:n<=65535):Calls prog 241 #[.pointer (some ⟨b,0,none⟩),.int .i64 f,.bool u] w fun e w'=>e=.returned (.tuple #[])∧PA n b A w' {s with on:=upd s.on f u}∧Fr (FPr A b) w w':=by
 obtain⟨r,h1,h2⟩:=h;obtain⟨x,hx,ex⟩:=h2.rl.id hi;subst ex;have hxm:=List.mem_of_getElem? hx;obtain⟨q1,q2,_,_⟩:=hk.el _ (mem_get hi);have hfn:f<n:=by omega
 refine(pr_set h1 hfn (h2.fm2 f hfn x hxm hf) (h1.lists.2.2.1 x hxm) u (fun _ q=>h2.size_pos hxm q) (by have:=h2.size_le;omega)).mono fun e w' ⟨a1,a2,a3⟩=>⟨a1,⟨_,a2,h2.setV hk hx hf u⟩,a3⟩
theorem pa_touch(h:PA n b A w s)(hk:PK n m s)(hi:s.L[i]?=some y)(hf:y.fr=(f:Int))(hn:n<=65535)(p:Int):Calls prog 237 #[.pointer (some ⟨b,0,none⟩),.int .i64 f,.int .u32 p] w fun e w'=>e=.returned (.tuple #[])∧PA n b A w' (s.put i {y with ref:=true})∧Fr (FPr A b) w w':=by
 obtain⟨r,h1,h2⟩:=h;obtain⟨x,hx,ex⟩:=h2.rl.id hi;subst ex;have hxm:=List.mem_of_getElem? hx;obtain⟨q1,q2,_,_⟩:=hk.el _ (mem_get hi);have hfn:f<n:=by omega
 have hfm:=h2.fm2 f hfn x hxm hf;have hx2:=h1.lists.2.2.1 x hxm;have HI:=Hd (pr_isFrame h1 hfn);have c1:w.cell? ⟨b,1,none⟩=some (.slice (some ⟨A.eb,0,none⟩) (2*n) (2*n)):=h1.c 1 (by omega);have c5:w.cell? ⟨b,5,none⟩=some (.slice (some ⟨A.fb,0,none⟩) n n):=h1.c 5 (by omega);have cf:=h1.cf hfn;rw[hfm]at cf;obtain⟨_,_,_,x3,_,_⟩:=h1.ce hx2;have fe:=fun i=>h1.en.frozen i
 have lb:=h1.hd.lt;have le:=h1.en.lt;have hne:((x:Int)== -1)=false:=by simp
 have g0:(0:Int)<=(x:Int):=by omega
 have g1:(x:Int)<2*(n:Int):=by omega
 have g2:(0:Int)<=(f:Int):=by omega
 have g3:(f:Int)<(n:Int):=by omega
 have KEY:Hid (PA n b A (w.setCell ⟨A.eb,x*6+3,none⟩ (.bool true)) (s.put i {r.e x with ref:=true})∧Fr (FPr A b) w (w.setCell ⟨A.eb,x*6+3,none⟩ (.bool true))):=
  ⟨⟨_,h1.setEn (r':={r with e:=upd r.e x {r.e x with ref:=true}}) (en_ref r.e r.v x true) rfl,h2.put (y:={r.e x with ref:=true}) hx rfl rfl rfl⟩,(Fr.refl (FPr A b) w).setCell (p:=⟨A.eb,x*6+3,none⟩) (.inl (.inr (.inl rfl))) _⟩
 clear h1 h2 hk hi hf hx hxm q1 q2 hfm;go_enter func237,ntmps237
 go_wp2_with(go_at_call 245;refine HI.out.mono ?_;rintro e w'⟨rfl,rfl⟩)
 go_returns;exact⟨rfl,KEY.out⟩
theorem spare_one(h1:PC w b n A r)(h2:Rf n r s)(hl:s.L.length<2*n):∃x sp',r.sp=x::sp'∧(¬x∈r.ids)∧¬x∈sp':=by
 have h3:=h2.tot;have h4:=h2.len
 cases e:r.sp with
 |nil=>rw[e]at h3;simp at h3;omega
 |cons x sp'=>
  obtain⟨_,hnd,_,_,hd⟩:=h1.lists;refine⟨x,sp',rfl,fun q=>hd x q (by rw[e];simp),fun q=>?_⟩;rw[e]at hnd;exact(List.nodup_cons.1 hnd).1 q
theorem fm_none(h2:Rf n r s)(hfn:f<n)(hno:∀z∈s.L,¬z.fr=(f:Int)):r.fm f= -1:=by
 rcases h2.fm0 f hfn with q|⟨x,q⟩
 .exact q
 .obtain⟨a1,a2⟩:=h2.fm1 f hfn x q
  obtain⟨j,hj⟩:=List.getElem?_of_mem a1;exact(hno _ (List.mem_of_getElem? (h2.get hj)) a2).elim
theorem ids_or(h2:Rf n r s):r.ids=[]∨r.h 0∈r.ids:=by
 rcases h2.rl.hd with q|q
 .exact .inl q
 .exact .inr (List.mem_of_getElem? (q 0 (by omega)))
theorem pa_come0(h:PA n b A w s)(hk:PK n n s)(hfn:f<n)(hno:∀z∈s.L,¬z.fr=(f:Int))(hong:∀z∈s.L,z.fr= -1->¬z.pg=id)(hon:s.on f=false)(hl:s.L.length<2*n)(hu:id<4294967296)(hn:n<=65535):
  Calls prog 237 #[.pointer (some ⟨b,0,none⟩),.int .i64 f,.int .u32 id] w fun e w'=>e=.returned (.tuple #[])∧PA n b A w' (s.lay ⟨id,f,false,false,true⟩)∧Fr (FPr A b) w w':=by
 obtain⟨r,h1,h2⟩:=h;have hfm:=fm_none h2 hfn hno;obtain⟨x,sp',hs,hni,hns⟩:=spare_one h1 h2 hl;have HI:=Hd (pr_isFrame h1 hfn);have c5:w.cell? ⟨b,5,none⟩=some (.slice (some ⟨A.fb,0,none⟩) n n):=h1.c 5 (by omega);have c6:w.cell? ⟨b,6,none⟩=some (.map (some A.mb)):=h1.c 6 (by omega);have cf:=h1.cf hfn;rw[hfm]at cf
 have hmp:r.mp (id:Int)=none:=by
  cases e:r.mp (id:Int)with
  |none=>rfl
  |some a=>
   obtain⟨a1,a2,a3⟩:=(h2.mp _ a).1 e;obtain⟨j,hj⟩:=List.getElem?_of_mem a1;have hL:=h2.get hj;have:=(hk.el _ (mem_get hL)).1;exact(hong _ (mem_get hL) (by omega) (by omega)).elim
 have hlk:=h1.mp.look_ok_run MVg (x:=(id:Nat)) (wfU hu);have hmpn:mpF r.mp (id:Int)=none:=by unfold mpF;rw[hmp];rfl
 rw[hmpn]at hlk;simp only[Option.getD_none,Option.isSome_none]at hlk;have HCO:=Hd (fun W (g:Fr NoF w W)=>ck_come (h1.fr0 g) ⟨id,f,false,false,true⟩ hs (ids_or h2));have hr0:=h2.come (y:=⟨id,f,false,false,true⟩) hk hs hni hns rfl hfn hfm hon;have lb:=h1.hd.lt;have lf:=h1.fb.lt;have g2:(0:Int)<=(f:Int):=by omega
 have g3:(f:Int)<(n:Int):=by omega
 have HK:Hid (∀W,PC W b n A (r.come ⟨id,f,false,false,true⟩)->Fr (FPr A b) w W->PA n b A (W.setCell ⟨A.fb,f,none⟩ (.int .i64 (x:Nat))) (s.lay ⟨id,f,false,false,true⟩)∧Fr (FPr A b) w (W.setCell ⟨A.fb,f,none⟩ (.int .i64 (x:Nat)))):=fun W hW fW=>by
  refine⟨⟨_,hW.setFm (i:=f) (x:Int),?_⟩,fW.setCell (p:=⟨A.fb,f,none⟩) (.inl (.inr (.inr (.inl rfl)))) _⟩
  have e1:(r.come ⟨id,f,false,false,true⟩).hot=r.hot:=by
   unfold Raw.come;exact(lay_ids_e _).2.2.2.1
  have e2:(r.come ⟨id,f,false,false,true⟩).fm=r.fm:=by
   unfold Raw.come;exact(lay_ids_e _).2.2.2.2.2.1
  rw[e2]
  have e3:({r.come ⟨id,f,false,false,true⟩with fm:=upd r.fm f (x:Int)}:Raw)={r.come ⟨id,f,false,false,true⟩with fm:=upd r.fm f (x:Int),hot:=r.hot+(if(⟨id,f,false,false,true⟩:En).hot=true then 1 else 0)}:=by
   rw[<-e1];rfl
  rw[e3];exact hr0
 unfold enV at HCO;clear h1 h2 hk hno hong hl hu hfm hmp hmpn hs hni hns hr0;generalize s.lay ⟨id,f,false,false,true⟩=s1 at*;go_enter func237,ntmps237
 go_wp2_with(go_at_call 245;refine HI.out.mono ?_;rintro e w'⟨rfl,rfl⟩)
 clear hlk cf
 go_region_with (go_at_call 246;(with_reducible refine(HCO.out _ (by repeat(first|exact Fr.refl NoF _|apply Fr.drew|apply Fr.drewN))).mono ?_);rintro e w1⟨rfl,h3,f3⟩;have d5:w1.cell? ⟨b,5,none⟩=some (.slice (some ⟨A.fb,0,none⟩) n n):=h3.c 5 (by omega);have fz:=h3.fb.frozen f;have cf3:=h3.cf hfn;have lf1:=h3.fb.lt;have lb1:=h3.hd.lt;have H3:=Hd h3;have F3:=Hd f3;clear h3 f3)
 all_goals
  have KEY:=Hd (HK.out _ H3.out (((Fr.refl (FPr A b) w).drew).trans F3.out (fun i q=>.inl q)));clear HK H3 F3 HCO c5 c6;go_wp2;go_returns;exact⟨rfl,KEY.out⟩
theorem pa_come1(h:PA n b A w s)(hk:PK n n s)(hfn:f<n)(hno:∀z∈s.L,¬z.fr=(f:Int))(hon:s.on f=false)(hl:s.L.length<2*n)(hu:id<4294967296)(hg:s.L[i]?=some y)(hg1:y.fr= -1)(hg2:y.pg=id)(h0:1<=id)(hn:n<=65535)
  (hpk:PK n n (({s with goal:=min (s.goal+1) (max (n-1) 1)}.drop i).lay ⟨id,f,true,false,false⟩)):
  Calls prog 237 #[.pointer (some ⟨b,0,none⟩),.int .i64 f,.int .u32 id] w fun e w'=>e=.returned (.tuple #[])∧PA n b A w' ((({s with goal:=min (s.goal+1) (max (n-1) 1)}.drop i).lay ⟨id,f,true,false,false⟩).cool n)∧Fr (FPr A b) w w':=by
 obtain⟨r,h1,h2⟩:=h;have hfm:=fm_none h2 hfn hno;obtain⟨g,hgx,eg⟩:=h2.rl.id hg;subst eg;have hgm:=List.mem_of_getElem? hgx;have hg2x:=h1.lists.2.2.1 g hgm;have HI:=Hd (pr_isFrame h1 hfn);have c5:w.cell? ⟨b,5,none⟩=some (.slice (some ⟨A.fb,0,none⟩) n n):=h1.c 5 (by omega);have c6:w.cell? ⟨b,6,none⟩=some (.map (some A.mb)):=h1.c 6 (by omega);have c7:w.cell? ⟨b,7,none⟩=some (.int .i64 (r.goal:Nat)):=h1.c 7 (by omega);have fb7:=h1.hd.frozen 7;have cf:=h1.cf hfn;rw[hfm]at cf;have hmp:r.mp (id:Int)=some g:=(h2.mp _ g).2 ⟨hgm,by omega,by omega⟩;have hlk:=h1.mp.look_ok_run MVg (x:=(id:Nat)) (wfU hu);have hmpn:mpF r.mp (id:Int)=some (.int .i64 (g:Nat)):=by unfold mpF;rw[hmp];rfl
 rw[hmpn]at hlk;simp only[Option.getD_some,Option.isSome_some]at hlk;have hn1:=hk.n1;have hgl:=hk.gl;have hgo:=h2.goal;have HGR:=Hd (fun W (g:Fr NoF w W)=>pr_greatest (h1.fr0 g) hn1);have hht:=h2.hot_le;have hr1:Rf n {r with goal:=min (s.goal+1) (max (n-1) 1)} {s with goal:=min (s.goal+1) (max (n-1) 1)}:=h2.goals _;have hr2:=hr1.ghost (i:=i) (x:=g) hgx (by show(r.e g).fr<0;omega)
 have HDROP:Hid (∀W,PC W b n A {r with goal:=min (s.goal+1) (max (n-1) 1)}->Calls prog 247 #[.pointer (some ⟨b,0,none⟩),.int .i64 g] W fun e w'=>e=.returned (.tuple #[])∧PC w' b n A (Raw.pdrop {r with goal:=min (s.goal+1) (max (n-1) 1)} g)∧Fr (FPr A b) W w'):=fun W hW=>by
  obtain⟨_,q2,_,_⟩:=hk.el _ (mem_get hg);exact pr_drop hW (x:=g) hgm (by show(r.e g).pg<_;exact q2.2) (fun q=>h2.hot_pos hgm q) (by show r.hot<=_;omega)
 have hno2:∀z∈({s with goal:=min (s.goal+1) (max (n-1) 1)}.drop i).L,¬z.fr=(f:Int):=fun z hz=>hno z (List.mem_of_mem_eraseIdx hz)
 have hfm2:=fm_none hr2 hfn hno2;have hl2:({s with goal:=min (s.goal+1) (max (n-1) 1)}.drop i).L.length<2*n:=by show(s.L.eraseIdx i).length<_;have:=List.length_eraseIdx_le (l:=s.L) (i:=i);omega
 have hk2:PK n n ({s with goal:=min (s.goal+1) (max (n-1) 1)}.drop i):=PK.drop (s:={s with goal:=min (s.goal+1) (max (n-1) 1)}) ⟨hk.hl,hk.uq,hk.el,hk.ng,by show 1<=min (s.goal+1) (max (n-1) 1)∧min (s.goal+1) (max (n-1) 1)<=_;omega,hk.n1⟩ hg;generalize hr3e:Raw.pdrop {r with goal:=min (s.goal+1) (max (n-1) 1)} g=r3 at*;have hon2:({s with goal:=min (s.goal+1) (max (n-1) 1)}.drop i).on f=false:=hon;generalize hs3e:({s with goal:=min (s.goal+1) (max (n-1) 1)}:PrS).drop i=s3 at*
 have HCOME:Hid (∀W,PC W b n A r3->∃x:Nat,(∀W',Fr NoF W W'->Calls prog 246 #[.pointer (some ⟨b,0,none⟩),enV ⟨id,f,true,false,false⟩ false] W' fun e w'=>e=.returned (.int .i64 (x:Nat))∧PC w' b n A (r3.come ⟨id,f,true,false,false⟩)∧Fr (FPr A b) W' w')∧
   Rf n {r3.come ⟨id,f,true,false,false⟩with fm:=upd r3.fm f (x:Int),hot:=r3.hot+1} (s3.lay ⟨id,f,true,false,false⟩)):=fun W hW=>by
  obtain⟨x,sp',hs,hni,hns⟩:=spare_one hW hr2 hl2;exact⟨x,fun W' g=>ck_come (hW.fr0 g) _ hs (ids_or hr2),hr2.come (y:=⟨id,f,true,false,false⟩) hk2 hs hni hns rfl hfn hfm2 hon2⟩
 have hh3:=hr2.hot_le
 have HCE:Hid ((r3.come ⟨id,f,true,false,false⟩).hot=r3.hot∧(r3.come ⟨id,f,true,false,false⟩).fm=r3.fm):=by
  unfold Raw.come;exact⟨(lay_ids_e _).2.2.2.1,(lay_ids_e _).2.2.2.2.2.1⟩
 have HCOOL:Hid (∀W,PA n b A W (s3.lay ⟨id,f,true,false,false⟩)->Calls prog 244 #[.pointer (some ⟨b,0,none⟩)] W fun e w'=>e=.returned (.tuple #[])∧PA n b A w' ((s3.lay ⟨id,f,true,false,false⟩).cool n)∧Fr (FPr A b) W w'):=fun W hW=>pa_cool hW hpk hn
 have HG7:Hid (∀(W:World) (z:Int),Fr NoF w W->z=((min (s.goal+1) (max (n-1) 1):Nat):Int)->PC (W.setCell ⟨b,7,none⟩ (.int .i64 z)) b n A {r with goal:=min (s.goal+1) (max (n-1) 1)}∧Fr (FPr A b) w (W.setCell ⟨b,7,none⟩ (.int .i64 z))):=fun W z g e=>by
  subst e;exact⟨(h1.fr0 g).setHead (r':={r with goal:=min (s.goal+1) (max (n-1) 1)}) (prH_goal _ _ _ _ _) rfl,(g.mono (fun _ q=>q.elim)).setCell (p:=⟨b,7,none⟩) (.inl (.inl rfl)) _⟩
 have lb:=h1.hd.lt;have g2:(0:Int)<=(f:Int):=by omega
 have g3:(f:Int)<(n:Int):=by omega
 have k1:(r.goal:Int)<=140000:=by omega
 have k2:IntKind.i64.wrap ((r.goal:Int)+1)=(r.goal:Int)+1:=wrap_small (by omega) (by omega);have k3:min (s.goal+1) (max (n-1) 1)=r.goal+1∨min (s.goal+1) (max (n-1) 1)=max (n-1) 1:=by omega
 have k4:min (s.goal+1) (max (n-1) 1)<=r.goal+1:=by omega
 have k5:min (s.goal+1) (max (n-1) 1)<=max (n-1) 1:=by omega
 have K345:=Hd (And.intro k3 (And.intro k4 k5));clear h1 h2 hk hno hon hl hu hg hg1 hg2 h0 hpk hfm hmp hmpn hr1 hr2 hno2 hfm2 hl2 hk2 hon2 hr3e hs3e hgm hgx hgl hgo hn1 k3 k4 k5;generalize min (s.goal+1) (max (n-1) 1)=gg at*;generalize max (n-1) 1=gm at*;generalize(s3.lay ⟨id,f,true,false,false⟩).cool n=fin at*;unfold enV at HCOME;go_enter func237,ntmps237
 go_wp2_with(go_at_call 245;refine HI.out.mono ?_;rintro e w'⟨rfl,rfl⟩)
 clear hlk cf HI
 go_region_with (go_at_call 53;(with_reducible refine(HGR.out _ (by repeat(first|exact Fr.refl NoF _|apply Fr.drew|apply Fr.drewN))).mono ?_);rintro e w1⟨rfl,rfl⟩)
 all_goals
  have e7:(if((gm:Nat):Int)<(r.goal:Int)+1 then(gm:Int)else(r.goal:Int)+1)=((gg:Nat):Int):=by
   obtain⟨a1,a2,a3⟩:=K345.out
   split<;>omega
  have e8:min ((r.goal:Int)+1) (gm:Int)=((gg:Nat):Int):=by
   obtain⟨a1,a2,a3⟩:=K345.out;omega
  first|rw[e7]|rw[e8]
  clear e8;obtain⟨hp,fp⟩:=HG7.out w _ (Fr.refl NoF w) rfl;have hp1:=hp.fr0 (Fr.refl NoF _).drew;have FP1:=Hd fp.drew;have HD1:=Hd (HDROP.out _ hp1);clear hp fp hp1 HG7 HDROP K345 HGR e7 k1 k2 c5 c6 c7 fb7 hht;generalize(w.setCell ⟨b,7,none⟩ (.int .i64 ((gg:Nat):Int))).drew=wd at*
  go_wp2_with fail
  refine HD1.out.mono ?_;clear HD1;rintro e w2⟨rfl,h3,f3⟩;obtain⟨x,hco,hrf⟩:=HCOME.out _ h3;have HCO:=Hd hco;have HRF:=Hd hrf;have F3:=Hd (FP1.out.trans f3 (fun i q=>.inl q));have c5:w2.cell? ⟨b,5,none⟩=some (.slice (some ⟨A.fb,0,none⟩) n n):=h3.c 5 (by omega);have lb2:=h3.hd.lt;clear h3 f3 hco hrf HCOME
  go_wp2_with fail
  go_region_with (go_at_call 246;(with_reducible refine(HCO.out _ (by repeat(first|exact Fr.refl NoF _|apply Fr.drew|apply Fr.drewN))).mono ?_);rintro e w1⟨rfl,h3,f3⟩;have d5:w1.cell? ⟨b,5,none⟩=some (.slice (some ⟨A.fb,0,none⟩) n n):=h3.c 5 (by omega);have fz:=h3.fb.frozen f;have cf3:=h3.cf hfn;have lf1:=h3.fb.lt;have lb1:=h3.hd.lt;have H3:=Hd h3;have F4:=Hd f3;clear h3 f3)
  all_goals
   have h4:=H3.out.setFm (i:=f) (x:Int);have f4:Fr (FPr A b) w _:=(((F3.out.trans (G:=NoF) ((Fr.refl NoF w2).drew) (fun _ q=>q.elim)).trans F4.out (fun i q=>.inl q))).setCell (p:=⟨A.fb,f,none⟩) (.inl (.inr (.inr (.inl rfl)))) (.int .i64 (x:Int));have hc2:=HCE.out.2;have hc1:=HCE.out.1;rw[hc2]at h4;have c8:=h4.c 8 (by omega);have c8':(w1.setCell ⟨A.fb,f,none⟩ (.int .i64 (x:Int))).cell? ⟨b,8,none⟩=some (.int .i64 (r3.hot:Nat)):=by rw[c8,<-hc1];rfl
   have fz8:=h4.hd.frozen 8;have lb8:=h4.hd.lt;have h5:=h4.setHead (i:=8) (u:=.int .i64 ((r3.hot+1:Nat):Int)) (r':={r3.come ⟨id,f,true,false,false⟩with fm:=upd r3.fm f (x:Int),hot:=r3.hot+1}) (prH_hot _ _ _ _ _) rfl;have f5:=f4.setCell (p:=⟨b,8,none⟩) (.inl (.inl rfl)) (.int .i64 ((r3.hot+1:Nat):Int));have e8:((r3.hot+1:Nat):Int)=(r3.hot:Int)+1:=by omega
   rw[e8]at h5 f5;have HC5:=Hd (HCOOL.out _ (⟨_,h5,HRF.out⟩:PA n b A _ (s3.lay ⟨id,f,true,false,false⟩)));have F5:=Hd f5;have h3b:(r3.hot:Int)<=140000:=by omega
   clear h4 f4 hc1 hc2 c8 h5 f5 e8 H3 F4 HCO HRF HCE HCOOL d5 fz cf3 lf1 lb1 c5 lb2 F3;generalize w1.setCell ⟨A.fb,f,none⟩ (.int .i64 (x:Int))=w5 at*
   go_wp2_with fail
   refine HC5.out.mono ?_;clear HC5;rintro e w6⟨rfl,h6,f6⟩;have KEY:=Hd (And.intro h6 (F5.out.trans f6 (fun i q=>.inl q)));clear h6 f6;go_wp2;go_returns;exact⟨rfl,KEY.out⟩
end
end
end Go.Proofs.YtoenclhimbpfeaaGreatDoor
