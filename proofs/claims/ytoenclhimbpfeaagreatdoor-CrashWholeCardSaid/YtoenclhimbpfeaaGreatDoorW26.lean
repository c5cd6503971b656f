/- Part 26. -/
import Derived.Test.YtoenclhimbpfeaaGreatDoorW25
namespace Go.Proofs.YtoenclhimbpfeaaGreatDoor
set_option linter.all false
set_option maxHeartbeats 16000000
set_option maxRecDepth 100000
section
open Go.Maps Go.Proofs.Tryz Go.RowKit
def dk0(room:Nat):DS:=⟨room,0,λ_=>(false,0),λ_=>0,false,0,0,0⟩
theorem rm:flM (λ_=>0)=λ_=>none:=by funext k;rfl
theorem te(room:Nat)(w:World)(h1:1<=room)(h2:room<=65535):Calls prog 7 #[.int .i64 room] w λe w'=>∃db pv fv mb,e=.returned (.tuple #[.pointer (some ⟨db,0,none⟩),.int .i64 0])/\DC w' db (dk0 room) 0 pv fv mb (λ_=>0) 0/\(∀i,FD db pv fv mb i->w.heap.size<=i)/\Fr NoF w w':=by
 have hmm:=@run_makeMap prog
 have K:Hid (∀wz:World,wz=(w.alloc (.map #[] 0)).alloc (.cells #[.int .i64 room,.slice none 0 0,.slice none 0 0,.map (some w.heap.size),.bool false,.int .i64 0,.int .i64 0,.int .i64 0] 72)->∀db,db=w.heap.size+1->DC wz db (dk0 room) 0 (.slice none 0 0) (.slice none 0 0) w.heap.size (λ_=>0) 0/\Fr NoF w wz):=by
  rintro wz rfl db rfl;refine⟨⟨⟨_,_,heap_alloc_new _ _ _ (by simp),rfl,λi hi=>?_⟩,SlF.nil _ _ _ _,SlF.nil _ _ _ _,?_,λb q=>(by cases q),λb q=>(by cases q),by omega,⟨h1,h2⟩,Nat.zero_le _,λk _ q=>(by omega),λk m q=>(by omega),Nat.le_refl _,λx=>⟨λ⟨k,q,_⟩=>(by omega),λ⟨q1,q2,_⟩=>(by have:x<=0:=q2;omega)⟩,by omega,⟨by show bg 0;unfold bg;omega,by show(0:Nat)<_;omega,by show(0:Nat)<_;omega⟩,λa=>by show bg 0;unfold bg;omega⟩,((Fr.refl NoF w).alloc _).alloc _⟩
  .match i,hi with
   |0,_=>rfl
   |1,_=>rfl
   |2,_=>rfl
   |3,_=>rfl
   |4,_=>rfl
   |5,_=>rfl
   |6,_=>rfl
   |7,_=>rfl
  .have hm:MpK prog 86 3 .i64 okA klA (w.alloc (.map #[] 0)) w.heap.size 0 (flM (λ_=>0)):=by rw[rm];exact MpK.made _ _ _ _ _ _ w
   exact hm.fr ((Fr.refl NoF _).alloc _) (λq=>q)
 go_enter func7,ntmps7;go_wp2;go_returns;obtain⟨h,f⟩:=K.out _ rfl _ rfl;refine⟨w.heap.size+1,_,_,_,rfl,h,λi q=>?_,f⟩;rcases q with q|q|q|q
 .omega
 .omega
 .cases q
 .cases q
section
variable{w w':World}{db c mb nf:Nat}{s:DS}{pv fv:Value}{fh:Nat->Nat}{F:Nat->Prop}
theorem DS.att_1(s:DS)(id:Nat)(b:Bool):(s.att id b).1=0/\s.has id=true\/(s.att id b).1=3\/(s.att id b).1=7:=by
 unfold DS.att
 split
 .rename_i q
  split
  .exact .inr (.inr rfl)
  .split
   .exact .inr (.inr rfl)
   .exact .inl ⟨rfl,q⟩
 .exact .inr (.inl rfl)
theorem DS.att_2(s:DS)(id:Nat)(b:Bool):(s.att id b).2.room=s.room/\(s.att id b).2.np=s.np/\(s.att id b).2.pg=s.pg/\(s.att id b).2.rd=s.rd/\(s.att id b).2.wr=s.wr:=by
 unfold DS.att
 split
 .split
  .exact⟨rfl,rfl,rfl,rfl,rfl⟩
  .split
   .exact⟨rfl,rfl,rfl,rfl,rfl⟩
   .dsimp only
    split<;>exact⟨rfl,rfl,rfl,rfl,rfl⟩
 .exact⟨rfl,rfl,rfl,rfl,rfl⟩
def DS.read(s:DS)(id:Nat):(Nat×Nat)×DS:=if(s.att id false).1=0 then(((s.pg (id-1)).2,0),{(s.att id false).2 with rd:=s.rd+1})else((0,(s.att id false).1),(s.att id false).2)
def DS.write(s:DS)(id v:Nat):Nat×DS:=if(s.att id true).1=0 then(0,{(s.att id true).2 with wr:=s.wr+1,pg:=upd s.pg (id-1) ((s.pg (id-1)).1,v)})else((s.att id true).1,(s.att id true).2)
theorem DC.value{g cap:Nat}(h:DC w db s c pv fv mb fh nf)(hpv:pv=.slice (some ⟨g,0,none⟩) s.np cap){k:Nat}(hk:k<s.np)(v:Nat):DC (w.setCell ⟨g,k*2+1,none⟩ (.int .u64 v)) db {s with pg:=upd s.pg k ((s.pg k).1,v)} c pv fv mb fh nf/\Fr (λi=>i=g) w (w.setCell ⟨g,k*2+1,none⟩ (.int .u64 v)):=by
 subst hpv;have f:Fr (λi=>i=g) w (w.setCell ⟨g,k*2+1,none⟩ (.int .u64 v)):=(Fr.refl (λi=>i=g) w).setCell (p:=⟨g,k*2+1,none⟩) (.inl rfl) _;obtain⟨n1,n2,n3⟩:=h.n1 g rfl;have hs:=h.po.set (i:=k*2+1) (by omega) (.int .u64 v);rw[A4]at hs;refine⟨⟨h.hd.fr f (λe=>n1 e.symm),hs,h.fo.fr f (λb q e=>n3 (by rw[<-e];exact q)),h.mp.fr f (λe=>n2 e.symm),h.n1,h.n2,h.n3,h.r1,h.r2,h.hp,h.inj,h.nn,λx=>?_,h.ct,h.lr,h.fb⟩,f⟩;rw[h.fm x]
 have e:(upd s.pg k ((s.pg k).1,v) (x-1)).1=(s.pg (x-1)).1:=by
  unfold upd;split
  .rename_i q;rw[q]
  .rfl
 show _↔1<=x/\x<=s.np/\(upd s.pg k ((s.pg k).1,v) (x-1)).1=false
 rw[e]
theorem CW(h:DC w db s c pv fv mb fh nf){id:Nat}(hu:aN id)(hrd:s.rd+1<1000000000):Calls prog 13 #[.pointer (some ⟨db,0,none⟩),.int .u32 id] w λe w'=>e=.returned (.tuple #[.int .u64 (s.read id).1.1,.int .i64 (s.read id).1.2])/\
  (∃c',c'<=c/\DC w' db (s.read id).2 c' pv fv mb fh nf)/\Fr (λi=>i=db\/i=mb) w w':=by
 have HA:=kC h hu false;obtain⟨a1,a2,a3,a4,a5⟩:=s.att_2 id false;rcases s.att_1 id false with⟨e,hh⟩|e|e
 .have HE:Hid (s.read id=(((s.pg (id-1)).2,0),{(s.att id false).2 with rd:=s.rd+1})):=by unfold Hid DS.read;rw[if_pos e]
  rw[HE.out];rw[e]at HA;have hid:1<=id/\id<=s.np:=by unfold DS.has at hh;simp at hh;omega
  have K:Hid (∀w1 c1,DC w1 db (s.att id false).2 c1 pv fv mb fh nf->∃g cap,pv=.slice (some ⟨g,0,none⟩) s.np cap/\¬g=db/\cap<=9223372036854775807/\s.np<=cap/\w1.cell? ⟨db,6,none⟩=some (.int .i64 s.rd)/\w1.cell? ⟨db,1,none⟩=some pv/\db<w1.heap.size/\g<w1.heap.size/\w1.frozen? ⟨db,6,none⟩=false/\w1.cell? ⟨g,(id-1)*2+1,none⟩=some (.int .u64 (s.pg (id-1)).2)/\
    Hid (∀z:Int,z=(s.rd:Int)+1->DC (w1.setCell ⟨db,6,none⟩ (.int .i64 z)) db {(s.att id false).2 with rd:=s.rd+1} c1 pv fv mb fh nf/\Fr (λk=>k=db) w1 (w1.setCell ⟨db,6,none⟩ (.int .i64 z)))):=by
   intro w1 c1 h1;obtain⟨g,cap,p1,p2,p3,p4,p5,p6⟩:=h1.po.at (by rw[a2];omega);rw[a2]at p1 p2 p6;have c6:w1.cell? ⟨db,6,none⟩=some (.int .i64 (s.att id false).2.rd):=h1.ce 6 (by omega);rw[a4]at c6;refine⟨g,cap,p1,(h1.n1 g (by rw[p1];rfl)).1,by unfold maxLen at p3;omega,p2,c6,h1.ce 1 (by omega),h1.hd.lt,p4,h1.hd.frozen 6,?_,?_⟩
   .rw[p6 _ (by omega),kY,a3]
   .rintro z rfl
    exact h1.head 6 (.int .i64 ((s.rd+1:Nat):Int)) (Hb _ pv fv mb (s.rd+1)) rfl rfl rfl rfl ⟨h1.lr.1,hrd,h1.lr.2.2⟩
  have HA2:=Hd HA;obtain⟨k,rfl⟩:∃k,id=k+1:=⟨id-1,by omega⟩;rw[show k+1-1=k from by omega]at*;have hks:((k+1:Nat):Int)-1=(k:Int):=by omega
  have hkn:k<s.np:=by omega
  generalize(s.pg k).2=val at*;have hnr:=h.r2;have hrr:=h.r1;clear h HA a1 a2 a3 a4 a5 e hh HE hu hid;go_enter func13,ntmps13
  go_wp2_with fail
  refine HA2.out.mono ?_;rintro e w1⟨rfl,⟨c1,hc1,h1⟩,f1⟩;obtain⟨g,cap,hpv,hgd,hcap,hncap,c6,c1',lb,lg,fz,cg,KK⟩:=K.out w1 c1 h1;have HPV:=Hd hpv;rw[hpv]at c1';have HF1:=Hd f1;have HC1:=Hd hc1;clear h1 f1 hc1 K HA2 hpv;have hgd2:¬db=g:=λe=>hgd e.symm
  go_wp2;go_returns;obtain⟨q1,q2⟩:=KK.out _ (by first|rfl|omega);exact⟨rfl,⟨c1,HC1.out,q1⟩,HF1.out.trans q2 (λi q=>.inl (.inl q))⟩
 .have HE:Hid (s.read id=((0,3),(s.att id false).2)):=by unfold Hid DS.read;rw[if_neg (by omega),e]
  rw[HE.out];rw[e]at HA;have HA2:=Hd HA;clear h HA a1 a2 a3 a4 a5 e HE hu;go_enter func13,ntmps13
  go_wp2_with fail
  refine HA2.out.mono ?_;rintro e w1⟨rfl,h1⟩;have H1:=Hd h1;clear h1 HA2;go_wp2;go_returns;exact⟨rfl,H1.out⟩
 .have HE:Hid (s.read id=((0,7),(s.att id false).2)):=by unfold Hid DS.read;rw[if_neg (by omega),e]
  rw[HE.out];rw[e]at HA;have HA2:=Hd HA;clear h HA a1 a2 a3 a4 a5 e HE hu;go_enter func13,ntmps13
  go_wp2_with fail
  refine HA2.out.mono ?_;rintro e w1⟨rfl,h1⟩;have H1:=Hd h1;clear h1 HA2;go_wp2;go_returns;exact⟨rfl,H1.out⟩
end
section
variable{w w':World}{db c mb nf:Nat}{s:DS}{pv fv:Value}{fh:Nat->Nat}{F:Nat->Prop}
theorem BL(h:DC w db s c pv fv mb fh nf){id:Nat}(hu:aN id)(v:Nat)(hwr:s.wr+1<1000000000):Calls prog 94 #[.pointer (some ⟨db,0,none⟩),.int .u32 id,.int .u64 v] w λe w'=>e=.returned (.int .i64 (s.write id v).1)/\
  (∃c',c'<=c/\DC w' db (s.write id v).2 c' pv fv mb fh nf)/\Fr (λi=>i=db\/i=mb\/pv.ownBlock=some i) w w':=by
 have HA:=kC h hu true;obtain⟨a1,a2,a3,a4,a5⟩:=s.att_2 id true;rcases s.att_1 id true with⟨e,hh⟩|e|e
 .have HE:Hid (s.write id v=(0,{(s.att id true).2 with wr:=s.wr+1,pg:=upd s.pg (id-1) ((s.pg (id-1)).1,v)})):=by unfold Hid DS.write;rw[if_pos e]
  rw[HE.out];rw[e]at HA;have hid:1<=id/\id<=s.np:=by unfold DS.has at hh;simp at hh;omega
  have K:Hid (∀w1 c1,DC w1 db (s.att id true).2 c1 pv fv mb fh nf->∃g cap,pv=.slice (some ⟨g,0,none⟩) s.np cap/\¬g=db/\cap<=9223372036854775807/\s.np<=cap/\w1.cell? ⟨db,7,none⟩=some (.int .i64 s.wr)/\w1.cell? ⟨db,1,none⟩=some pv/\db<w1.heap.size/\g<w1.heap.size/\w1.frozen? ⟨db,7,none⟩=false/\w1.frozen? ⟨g,(id-1)*2+1,none⟩=false/\w1.cell? ⟨g,(id-1)*2+1,none⟩=some (.int .u64 (s.pg (id-1)).2)/\
    Hid (∀z:Int,z=(s.wr:Int)+1->DC ((w1.setCell ⟨db,7,none⟩ (.int .i64 z)).setCell ⟨g,(id-1)*2+1,none⟩ (.int .u64 v)) db {(s.att id true).2 with wr:=s.wr+1,pg:=upd s.pg (id-1) ((s.pg (id-1)).1,v)} c1 pv fv mb fh nf/\Fr (λk=>k=db\/pv.ownBlock=some k) w1 ((w1.setCell ⟨db,7,none⟩ (.int .i64 z)).setCell ⟨g,(id-1)*2+1,none⟩ (.int .u64 v)))):=by
   intro w1 c1 h1;obtain⟨g,cap,p1,p2,p3,p4,p5,p6⟩:=h1.po.at (by rw[a2];omega);rw[a2]at p1 p2 p6;have c7:w1.cell? ⟨db,7,none⟩=some (.int .i64 (s.att id true).2.wr):=h1.ce 7 (by omega);rw[a5]at c7;refine⟨g,cap,p1,(h1.n1 g (by rw[p1];rfl)).1,by unfold maxLen at p3;omega,p2,c7,h1.ce 1 (by omega),h1.hd.lt,p4,h1.hd.frozen 7,p5 _,?_,?_⟩
   .rw[p6 _ (by omega),kY,a3]
   .rintro z rfl
    obtain⟨h2,f2⟩:=h1.head 7 (.int .i64 ((s.wr+1:Nat):Int)) (G0 _ pv fv mb (s.wr+1)) rfl rfl rfl rfl ⟨h1.lr.1,h1.lr.2.1,hwr⟩;obtain⟨h3,f3⟩:=h2.value (k:=id-1) (p1.trans (by rw[a2])) (by show id-1<(s.att id true).2.np;rw[a2];omega) v;have h4:DC ((w1.setCell ⟨db,7,none⟩ (.int .i64 ((s.wr+1:Nat):Int))).setCell ⟨g,(id-1)*2+1,none⟩ (.int .u64 v)) db {(s.att id true).2 with wr:=s.wr+1,pg:=upd (s.att id true).2.pg (id-1) (((s.att id true).2.pg (id-1)).1,v)} c1 pv fv mb fh nf:=h3;rw[a3]at h4;exact⟨h4,(f2.mono (λi q=>.inl q)).trans f3 (λi q=>.inl (.inr (by rw[p1,q];rfl)))⟩
  have HA2:=Hd HA;obtain⟨k,rfl⟩:∃k,id=k+1:=⟨id-1,by omega⟩;rw[show k+1-1=k from by omega]at*;have hks:((k+1:Nat):Int)-1=(k:Int):=by omega
  have hkn:k<s.np:=by omega
  generalize(s.pg k).2=val at*;have hnr:=h.r2;have hrr:=h.r1;clear h HA a1 a2 a3 a4 a5 e hh HE hu hid;go_enter func94,ntmps94
  go_wp2_with fail
  refine HA2.out.mono ?_;rintro e w1⟨rfl,⟨c1,hc1,h1⟩,f1⟩;obtain⟨g,cap,hpv,hgd,hcap,hncap,c7,c1',lb,lg,fz,fg,cg,KK⟩:=K.out w1 c1 h1;have HPV:=Hd hpv;rw[hpv]at c1';have HF1:=Hd f1;have HC1:=Hd hc1;clear h1 f1 hc1 K HA2 hpv;have hgd2:¬db=g:=λe=>hgd e.symm
  go_wp2;go_returns;obtain⟨q1,q2⟩:=KK.out _ (by first|rfl|omega);exact⟨rfl,⟨c1,HC1.out,q1⟩,(HF1.out.mono (λi q=>by rcases q with q|q;exact .inl q;exact .inr (.inl q))).trans q2 (λi q=>.inl (by rcases q with q|q;exact .inl q;exact .inr (.inr q)))⟩
 .have HE:Hid (s.write id v=(3,(s.att id true).2)):=by unfold Hid DS.write;rw[if_neg (by omega),e]
  rw[HE.out];rw[e]at HA;have HA2:=Hd HA;clear h HA a1 a2 a3 a4 a5 e HE hu;go_enter func94,ntmps94
  go_wp2_with fail
  refine HA2.out.mono ?_;rintro e w1⟨rfl,h1,f1⟩;have H1:=Hd h1;have F1:=Hd f1;clear h1 f1 HA2;go_wp2;go_returns;exact⟨rfl,H1.out,F1.out.mono (λi q=>by rcases q with q|q;exact .inl q;exact .inr (.inl q))⟩
 .have HE:Hid (s.write id v=(7,(s.att id true).2)):=by unfold Hid DS.write;rw[if_neg (by omega),e]
  rw[HE.out];rw[e]at HA;have HA2:=Hd HA;clear h HA a1 a2 a3 a4 a5 e HE hu;go_enter func94,ntmps94
  go_wp2_with fail
  refine HA2.out.mono ?_;rintro e w1⟨rfl,h1,f1⟩;have H1:=Hd h1;have F1:=Hd f1;clear h1 f1 HA2;go_wp2;go_returns;exact⟨rfl,H1.out,F1.out.mono (λi q=>by rcases q with q|q;exact .inl q;exact .inr (.inl q))⟩
theorem EIp:EI prog 69 83 2 16:=EI.mk' (z:=.agg #[.bool false,.int .u64 0]) underlying69 (by kernel_rfl) rfl (by decide)
theorem mu(h:DC w db s c pv fv mb fh 0)(hr:¬s.np<s.room):Calls prog 61 #[.pointer (some ⟨db,0,none⟩)] w λe w'=>e=.returned (.tuple #[.int .u32 0,.int .i64 2])/\∃d,w.drewN d=w':=by
 have c0:w.cell? ⟨db,0,none⟩=some (.int .i64 s.room):=h.ce 0 (by omega);have c1:w.cell? ⟨db,1,none⟩=some pv:=h.ce 1 (by omega);have c2:w.cell? ⟨db,2,none⟩=some fv:=h.ce 2 (by omega);obtain⟨va,vc,rfl,v1,v2⟩:=h.po.shape;obtain⟨fa,fc,rfl,_,_⟩:=h.fo.shape;have hir:(s.room:Int)<=s.np:=by omega
 have hr1:=h.r1;have hr2:=h.r2;unfold maxLen at v2;clear h;go_enter func61,ntmps61;go_wp2
 go_quiet (fail)
 go_wp2;go_returns;exact⟨rfl,_,rfl⟩
def DS.grow(s:DS):DS:={s with np:=s.np+1,pg:=upd s.pg s.np (true,0)}
theorem DC.grow(h:DC w db s c pv fv mb fh nf)(hr:s.np<s.room){pv':Value}{w1:World}(hs:SlF w1 83 2 pv' (s.np+1) (upd (upd (pgF s.pg) (s.np*2) (.bool true)) (s.np*2+1) (.int .u64 0)))(f:Fr (λb=>pv.ownBlock=some b) w w1)(ho:∀b,pv'.ownBlock=some b->pv.ownBlock=some b\/w.heap.size<=b):
  DC (w1.setCell ⟨db,1,none⟩ pv') db s.grow c pv' fv mb fh nf/\Fr (λi=>i=db\/pv.ownBlock=some i) w (w1.setCell ⟨db,1,none⟩ pv'):=by
 have f2:Fr (λi=>i=db) w1 (w1.setCell ⟨db,1,none⟩ pv'):=(Fr.refl (λi=>i=db) w1).setCell (p:=⟨db,1,none⟩) (.inl rfl) _;have f3:Fr (λi=>i=db\/pv.ownBlock=some i) w (w1.setCell ⟨db,1,none⟩ pv'):=(f.mono (λi q=>.inr q)).trans f2 (λi q=>.inl (.inl q));have hl:=h.hd.lt;have hm:=h.mp.lt
 have n1':∀b,pv'.ownBlock=some b->¬b=db/\¬b=mb/\¬fv.ownBlock=some b:=by
  intro b q;rcases ho b q with q|q
  .exact h.n1 b q
  .exact⟨by omega,by omega,λq2=>by have:=h.fo.lt b q2;omega⟩
 have hb1:=(h.hd.fr f (λe=>(h.n1 db e).1 rfl)).set 1 pv'
 have eh:upd (dH s pv fv mb) 1 pv'=dH s.grow pv' fv mb:=by
  funext j
  match j with
  |0=>rfl
  |1=>rfl
  |2=>rfl
  |3=>rfl
  |4=>rfl
  |5=>rfl
  |6=>rfl
  |7=>rfl
  |j+8=>simp[upd,dH]
 rw[eh]at hb1;rw[show(Value.int .u64 0)=.int .u64 ((0:Nat):Int)from rfl,oX]at hs;refine⟨⟨hb1,hs.fr f2 (λb q e=>(n1' b q).1 e),h.fo.fr f3 (λb q e=>by rcases e with e|e;exact(h.n2 b q).1 e;exact(h.n1 b e).2.2 q),h.mp.fr f3 (λe=>by rcases e with e|e;exact h.n3 e;exact(h.n1 mb e).2.1 rfl),n1',h.n2,h.n3,h.r1,by show s.np+1<=s.room;omega,h.hp,h.inj,by show nf<=s.np+1;exact Nat.le_succ_of_le h.nn,λx=>?_,h.ct,h.lr,h.fb⟩,f3⟩;rw[h.fm x]
 show _↔1<=x/\x<=s.np+1/\(upd s.pg s.np (true,0) (x-1)).1=false
 by_cases e:x-1=s.np
 .rw[e,upd_same]
  constructor
  .intro q;omega
  .intro q;exact absurd q.2.2 (by simp)
 .rw[aa _ _ e]
  constructor
  .intro q;exact⟨q.1,by omega,q.2.2⟩
  .intro q;exact⟨q.1,by omega,q.2.2⟩
theorem nT(h:DC w db s c pv fv mb fh 0)(hr:s.np<s.room):Calls prog 61 #[.pointer (some ⟨db,0,none⟩)] w λe w'=>e=.returned (.tuple #[.int .u32 (s.np+1:Nat),.int .i64 0])/\
  (∃pv',DC w' db s.grow c pv' fv mb fh 0/\∀b,pv'.ownBlock=some b->pv.ownBlock=some b\/w.heap.size<=b)/\Fr (λi=>i=db\/pv.ownBlock=some i) w w':=by
 have c0:w.cell? ⟨db,0,none⟩=some (.int .i64 s.room):=h.ce 0 (by omega);have c1:w.cell? ⟨db,1,none⟩=some pv:=h.ce 1 (by omega);have c2:w.cell? ⟨db,2,none⟩=some fv:=h.ce 2 (by omega);obtain⟨va,vc,rfl,v1,v2⟩:=h.po.shape;obtain⟨fa,fc,rfl,_,_⟩:=h.fo.shape;have hr1:=h.r1;have hr2:=h.r2;have hri:(s.np:Int)<s.room:=by omega
 have lb:=h.hd.lt;have hcv:IntKind.u32.wrap ((s.np+1:Nat):Int)=((s.np+1:Nat):Int):=IntWalk.u32_in _ (by omega);unfold maxLen at v2;have HP:=Hd h.po
 have K:Hid (∀d pv' w2,SlF w2 83 2 pv' (s.np+1) (upd (upd (pgF s.pg) (s.np*2) (.bool true)) (s.np*2+1) (.int .u64 0))->Fr (λb=>(Value.slice va s.np vc).ownBlock=some b) ((w.drewN d).alloc (.cells #[.bool true,.int .u64 0] 83)) w2->(∀b,pv'.ownBlock=some b->(Value.slice va s.np vc).ownBlock=some b\/((w.drewN d).alloc (.cells #[.bool true,.int .u64 0] 83)).heap.size<=b)->
   (∃a8 c8,pv'=.slice a8 (s.np+1:Nat) c8)/\db<w2.heap.size/\w2.cell? ⟨db,1,none⟩=some (.slice va s.np vc)/\w2.frozen? ⟨db,1,none⟩=false/\
   Hid ((∃pv'',DC (w2.setCell ⟨db,1,none⟩ pv') db s.grow c pv'' (.slice fa 0 fc) mb fh 0/\∀b,pv''.ownBlock=some b->(Value.slice va s.np vc).ownBlock=some b\/w.heap.size<=b)/\Fr (λi=>i=db\/(Value.slice va s.np vc).ownBlock=some i) w (w2.setCell ⟨db,1,none⟩ pv'))/\
   (w2.setCell ⟨db,1,none⟩ pv').cell? ⟨db,1,none⟩=some pv'):=by
  intro d pv' w2 hs f hob;have f0:Fr (λb=>(Value.slice va s.np vc).ownBlock=some b) w w2:=Fr.trans (Fr.none (((Fr.refl NoF w).drewN d).alloc _)) f (λi q=>.inl q);have ho:∀b,pv'.ownBlock=some b->(Value.slice va s.np vc).ownBlock=some b\/w.heap.size<=b:=λb q=>(hob b q).imp id (λq=>by simp at q;omega)
  obtain⟨g1,g2⟩:=h.grow hr hs f0 ho;obtain⟨a8,c8,e,_,_⟩:=hs.shape;have hb2:=h.hd.fr f0 (λe=>(h.n1 db e).1 rfl);exact⟨⟨a8,c8,e⟩,hb2.lt,hb2.cell (i:=1) (by omega),hb2.frozen 1,⟨⟨pv',g1,ho⟩,g2⟩,g1.ce 1 (by omega)⟩
 clear h;go_enter func61,ntmps61;go_wp2
 go_quiet (fail)
 go_wp2_with(at_builtin;go_must(refine eT (base:=0) EIp rfl _ _ rfl (by rfl) (by rfl) (Nat.zero_le _) (ak HP.out (by repeat(first|exact Fr.refl NoF _|apply Fr.drewN|apply Fr.alloc)) (λ_ _ q=>q)) (jY (size:=2) (n:=1) (cs:=#[.bool true,.int .u64 0]) (heap_alloc_new _ _ _ (by simp)) (by rfl) (by unfold maxLen;omega) (by simp[Value.oneCell'])) (by unfold maxLen;omega) (by omega) ?_);intro v' w2 hown' hf' hob';obtain⟨⟨a8,c8,rfl⟩,k2,k3,k4,k5,k6⟩:=K.out _ _ w2 (SlF.snoc2 hown') hf' hob';clear hown' hf' hob')
 go_returns;exact⟨by first|rfl|(rw[<-hcv]),k5.out⟩
end
theorem EU:∀(N n:Nat) (f:Nat->Nat),gN (λx:Nat=>x) f n->(∀k,k<n->f k<N)->n<=N:=by
 intro N
 induction N with
 |zero=>
  intro n f hi hb;rcases Nat.eq_zero_or_pos n with e|e
  .omega
  .have:=hb 0 e;omega
 |succ N ih=>
  intro n f hi hb;by_cases hk:∃k,k<n/\f k=N
  .obtain⟨k,k1,k2⟩:=hk
   obtain⟨m,rfl⟩:∃m,n=m+1:=⟨n-1,by omega⟩;have hs:=eJ (f:=λx:Nat=>x) (a:=f) (i:=k) (j:=m) k1 (by omega) hi
   have:=ih m (swp f k m) (λa b ha hb' e=>hs a b (by omega) (by omega) e) (λj hj=>by
    show(if j=k then f m else if j=m then f k else f j)<N
    split
    .rename_i e
     have h1:=hb m (by omega);have h2:¬f m=N:=λq=>by have:=hi m k (by omega) k1 (by show f m=f k;omega);omega
     omega
    .rename_i e
     rw[if_neg (by omega)];have h1:=hb j (by omega);have h2:¬f j=N:=λq=>by have:=hi j k (by omega) k1 (by show f j=f k;omega);exact e this
     omega)
   omega
  .have:=ih n f hi (λk q=>by have h1:=hb k q;have h2:¬f k=N:=λe=>hk ⟨k,q,e⟩;omega)
   omega
theorem Cx{α:Type}(lt:α->α->Bool){a:Nat->α}{n:Nat}(t:α)(h:bt lt a n):dB lt (upd a n t) (n+1) n:=by
 refine⟨λk h0 h1 h2=>?_,λk h0 h1 h2 h3=>?_⟩
 .have hp:par k<n:=by unfold par;omega
  rw[aa _ _ h2,aa _ _ (by omega)];exact h k h0 (by omega)
 .exfalso;unfold par at h2;omega
theorem AS(s:DS)(pv fv fv':Value)(mb:Nat):upd (dH s pv fv mb) 2 fv'=dH s pv fv' mb:=by
 funext j
 match j with
 |0=>rfl
 |1=>rfl
 |2=>rfl
 |3=>rfl
 |4=>rfl
 |5=>rfl
 |6=>rfl
 |7=>rfl
 |j+8=>simp[upd,dH]
def DS.gone(s:DS)(id:Nat):DS:={s with pg:=upd s.pg (id-1) (false,0)}
section
variable{w w':World}{db c mb nf:Nat}{s:DS}{pv fv:Value}{fh:Nat->Nat}{F:Nat->Prop}
theorem DC.small(h:DC w db s c pv fv mb fh nf):nf<=65535:=by
 have:=h.nn;have:=h.r1;have:=h.r2;omega
theorem DC.page2{g cap:Nat}(h:DC w db s c pv fv mb fh nf)(hpv:pv=.slice (some ⟨g,0,none⟩) s.np cap){k:Nat}(hk:k<s.np)(b:Bool)(v:Nat){w1:World}(hw:w1=(w.setCell ⟨g,k*2,none⟩ (.bool b)).setCell ⟨g,k*2+1,none⟩ (.int .u64 v)):
  SlF w1 83 2 pv s.np (pgF (upd s.pg k (b,v)))/\Fr (λi=>pv.ownBlock=some i) w w1:=by
 subst hw;subst hpv;have hs:=(h.po.set (i:=k*2) (by omega) (.bool b)).set (i:=k*2+1) (by omega) (.int .u64 v);rw[oX]at hs;exact⟨hs,(((Fr.refl (λi=>i=g) w).setCell (p:=⟨g,k*2,none⟩) (.inl rfl) _).setCell (p:=⟨g,k*2+1,none⟩) (.inl rfl) _).mono (λi q=>by rw[q];rfl)⟩
theorem DC.freed(h:DC w db s c pv fv mb fh nf){id:Nat}(hh:s.has id=true){w1 w2:World}(hs:SlF w1 83 2 pv s.np (pgF (upd s.pg (id-1) (false,0))))(f1:Fr (λi=>pv.ownBlock=some i) w w1){F F':Nat->Prop}(hF:∀i,F i↔i=db\/fv.ownBlock=some i)
  (hr:HRd db (dH s pv fv mb) w2 (upF ltN (upd fh nf id) nf) (nf+1) F')(f2:Fr F w1 w2)(hF':∀i,F' i->F i\/w1.heap.size<=i):
  (∃fv',DC w2 db (s.gone id) c pv fv' mb (upF ltN (upd fh nf id) nf) (nf+1)/\∀b,fv'.ownBlock=some b->fv.ownBlock=some b\/w.heap.size<=b)/\Fr (FD db pv fv mb) w w2:=by
 obtain⟨fv',hb,hsl,hd,hn,hFe⟩:=hr;rw[AS]at hb;have hid:1<=id/\id<=s.np/\(s.pg (id-1)).1=true:=by unfold DS.has at hh;simp at hh;exact⟨hh.1.1,hh.1.2,hh.2⟩
 have ho:∀b,fv'.ownBlock=some b->fv.ownBlock=some b\/w.heap.size<=b:=by
  intro b q;rcases hF' b ((hFe b).2 (.inr q))with e|e
  .rcases(hF b).1 e with e|e
   .exact absurd e (hd b q)
   .exact .inl e
  .exact .inr (Nat.le_trans f1.size e)
 have hl:=h.hd.lt;have hm:=h.mp.lt
 have hni:∀k,k<nf->¬fh k=id:=by
  intro k hk e;have:=(h.fm id).1 ⟨k,hk,e⟩;rw[hid.2.2]at this;exact absurd this.2.2 (by simp)
 have hmem:∀x,(∃k,k<nf+1/\upF ltN (upd fh nf id) nf k=x)↔x=id\/∃k,k<nf/\fh k=x:=by
  intro x;rw[tf ltN x (n:=nf+1) (upd fh nf id) nf (by omega)];constructor
  .rintro⟨k,k1,k2⟩
   by_cases e:k=nf
   .subst e;rw[upd_same]at k2;exact .inl k2.symm
   .rw[aa _ _ e]at k2;exact .inr ⟨k,by omega,k2⟩
  .rintro(e|⟨k,k1,k2⟩)
   .exact⟨nf,by omega,by rw[upd_same,e]⟩
   .exact⟨k,by omega,by rw[aa _ _ (by omega)];exact k2⟩
 have hinj:gN (λx:Nat=>x) (upF ltN (upd fh nf id) nf) (nf+1):=by
  refine Et ltN (upd fh nf id) nf (by omega) ?_;intro a b ha hb e
  dsimp only at e
  by_cases e1:a=nf
  .by_cases e2:b=nf
   .omega
   .rw[e1,upd_same,aa _ _ e2]at e
    exact absurd e.symm (hni b (by omega))
  .by_cases e2:b=nf
   .rw[e2,upd_same,aa _ _ e1]at e
    exact absurd e (hni a (by omega))
   .rw[aa _ _ e1,aa _ _ e2]at e
    exact h.inj a b (by omega) (by omega) e
 have hfm:∀x,(∃k,k<nf+1/\upF ltN (upd fh nf id) nf k=x)↔1<=x/\x<=s.np/\(upd s.pg (id-1) (false,0) (x-1)).1=false:=by
  intro x;rw[hmem x,h.fm x];by_cases e:x=id
  .subst e
   rw[upd_same];exact⟨λ_=>⟨hid.1,hid.2.1,rfl⟩,λ_=>.inl rfl⟩
  .constructor
   .rintro(q|q)
    .exact absurd q e
    .rw[aa _ _ (by omega)];exact q
   .intro q
    rw[aa _ _ (by omega)]at q;exact .inr q
 have hnn:nf+1<=s.np:=by
  refine EU s.np (nf+1) (λk=>upF ltN (upd fh nf id) nf k-1) (λa b ha hb e=>?_) (λk hk=>?_)
  .have e1:=(hfm _).1 ⟨a,ha,rfl⟩
   have e2:=(hfm _).1 ⟨b,hb,rfl⟩;exact hinj a b ha hb (by show upF ltN (upd fh nf id) nf a=upF ltN (upd fh nf id) nf b;have e3:upF ltN (upd fh nf id) nf a-1=upF ltN (upd fh nf id) nf b-1:=e;omega)
  .have e1:=(hfm _).1 ⟨k,hk,rfl⟩
   show upF ltN (upd fh nf id) nf k-1<s.np;omega
 have f12:Fr (FD db pv fv mb) w w2:=(f1.mono (λi q=>.inr (.inr (.inl q)))).trans f2 (λi q=>.inl (by rcases(hF i).1 q with q|q;exact .inl q;exact .inr (.inr (.inr q))))
 have n1':∀b,pv.ownBlock=some b->¬b=db/\¬b=mb/\¬fv'.ownBlock=some b:=by
  intro b q;refine⟨(h.n1 b q).1,(h.n1 b q).2.1,λq2=>?_⟩;rcases ho b q2 with e|e
  .exact(h.n1 b q).2.2 e
  .have:=h.po.lt b q;omega
 have n2':∀b,fv'.ownBlock=some b->¬b=db/\¬b=mb:=by
  intro b q;rcases ho b q with e|e
  .exact h.n2 b e
  .exact⟨by omega,by omega⟩
 exact⟨⟨fv',⟨hb,hs.fr f2 (λb q e=>by rcases(hF b).1 e with e|e;exact(h.n1 b q).1 e;exact(h.n1 b q).2.2 e),hsl,(h.mp.fr f1 (λe=>(h.n1 mb e).2.1 rfl)).fr f2 (λe=>by rcases(hF mb).1 e with e|e;exact h.n3 e;exact(h.n2 mb e).2 rfl),n1',n2',h.n3,h.r1,h.r2,(Cx ltN id h.hp).up oW _ nf (by omega),hinj,hnn,hfm,h.ct,h.lr,h.fb⟩,ho⟩,f12⟩
theorem DC.heap(h:DC w db s c pv fv mb fh nf){w1:World}(f1:Fr (λi=>pv.ownBlock=some i) w w1):HRd db (dH s pv fv mb) w1 fh nf (λi=>i=db\/fv.ownBlock=some i):=by
 refine⟨fv,?_,h.fo.fr f1 (λb q e=>(h.n1 b e).2.2 q),λb q=>(h.n2 b q).1,by have:=h.small;omega,λi=>Iff.rfl⟩;rw[AS];exact h.hd.fr f1 (λe=>(h.n1 db e).1 rfl)
theorem rP(h:DC w db s c pv fv mb fh nf){id:Nat}(hu:aN id)(hh:s.has id=false):Calls prog 63 #[.pointer (some ⟨db,0,none⟩),.int .u32 id] w λe w'=>e=.returned (.int .i64 3)/\w=w':=by
 have HA:=sZ h hu;rw[hh]at HA;have HA2:=Hd HA;clear h HA hh hu;go_enter func63,ntmps63
 go_wp2_with fail
 refine HA2.out.mono ?_;rintro e w1⟨rfl,rfl⟩;go_wp2;go_returns;exact⟨rfl,rfl⟩
theorem rC(h:DC w db s c pv fv mb fh nf){id:Nat}(hu:aN id)(hh:s.has id=true):Calls prog 63 #[.pointer (some ⟨db,0,none⟩),.int .u32 id] w λe w'=>e=.returned (.int .i64 0)/\
  (∃fv',DC w' db (s.gone id) c pv fv' mb (upF ltN (upd fh nf id) nf) (nf+1)/\∀b,fv'.ownBlock=some b->fv.ownBlock=some b\/w.heap.size<=b)/\Fr (FD db pv fv mb) w w':=by
 have HA:=sZ h hu;rw[hh]at HA;have HA2:=Hd HA;have hid:1<=id/\id<=s.np/\(s.pg (id-1)).1=true:=by unfold DS.has at hh;simp at hh;exact⟨hh.1.1,hh.1.2,hh.2⟩
 obtain⟨g,cap,p1,p2,p3,p4,p5,p6⟩:=h.po.at (by omega);have c1:w.cell? ⟨db,1,none⟩=some pv:=h.ce 1 (by omega);have lb:=h.hd.lt;have hgd:¬g=db:=(h.n1 g (by rw[p1];rfl)).1;have hgd2:¬db=g:=λe=>hgd e.symm
 have HS:=h.small
 have K:Hid (∀w1,w1=(w.setCell ⟨g,(id-1)*2,none⟩ (.bool false)).setCell ⟨g,(id-1)*2+1,none⟩ (.int .u64 0)->Calls prog 87 #[.iface 195 (.pointer (some ⟨db,2,none⟩)),.iface 34 (.int .u32 id)] w1 λe w'=>e=.returned (.tuple #[])/\(∃fv',DC w' db (s.gone id) c pv fv' mb (upF ltN (upd fh nf id) nf) (nf+1)/\∀b,fv'.ownBlock=some b->fv.ownBlock=some b\/w.heap.size<=b)/\Fr (FD db pv fv mb) w w'):=by
  intro w1 hw;obtain⟨q1,q2⟩:=h.page2 p1 (k:=id-1) (by omega) false 0 hw;have hp:=nH (uP db (dH s pv fv mb)) (h.heap q2) (t:=id) (by show nf<900000;omega);refine hp.mono ?_;rintro e w2⟨rfl,F',h1,h2,h3⟩;exact⟨rfl,h.freed hh q1 q2 (λi=>Iff.rfl) h1 h2 h3⟩
 have cf0:=p5 ((id-1)*2);have cf1:=p5 ((id-1)*2+1);have cg0:=p6 ((id-1)*2) (by omega);have cg1:=p6 ((id-1)*2+1) (by omega);rw[p1]at c1;unfold maxLen at p3;obtain⟨k,rfl⟩:∃k,id=k+1:=⟨id-1,by omega⟩;rw[show k+1-1=k from by omega]at*;rw[qn]at cg0;rw[kY]at cg1;have hks:((k+1:Nat):Int)-1=(k:Int):=by omega
 have hkn:k<s.np:=by omega
 have hnr:=h.r2;have hrr:=h.r1;clear h HA hh hu hid p5 p6 p1;go_enter func63,ntmps63
 go_wp2_with fail
 refine HA2.out.mono ?_;rintro e w1⟨rfl,rfl⟩
 go_wp2_with fail
 refine(K.out _ (by rfl)).mono ?_;rintro e w2⟨rfl,h2⟩;have H2:=Hd h2;clear h2;go_wp2;go_returns;exact⟨rfl,H2.out⟩
end
section
variable{α:Type}{lt:α->α->Bool}
theorem Bu(O:Ord lt){a:Nat->α}{n:Nat}(h:bt lt a (n+1)):bt lt (eX lt a n) n:=by
 unfold eX
 split
 .rename_i e;subst e;intro k h0 h1;omega
 .rename_i e
  refine(eE.down O n (swp a 0 n) 0 (by omega) (by omega) ⟨λk h0 h1 h2 h3=>?_,λk h0 h1 h2 h3=>(by omega)⟩).2.2 (.inl rfl);have hp:par k<n:=by unfold par;omega
  have e1:swp a 0 n k=a k:=by unfold swp;rw[if_neg h2,if_neg (by omega)]
  have e2:swp a 0 n (par k)=a (par k):=by unfold swp;rw[if_neg h3,if_neg (by omega)]
  rw[e1,e2];exact h k h0 (by omega)
theorem vC{β:Type}{f:α->β}{a:Nat->α}{n:Nat}(hi:gN f a (n+1)):gN f (eX lt a n) n/\∀x,(∃k,k<n/\eX lt a n k=x)↔∃k,k<n/\swp a 0 n k=x:=by
 unfold eX
 split
 .rename_i e
  subst e;exact⟨λk m h1=>(by omega),λx=>⟨λ⟨k,q,_⟩=>(by omega),λ⟨k,q,_⟩=>(by omega)⟩⟩
 .rename_i e
  have hs:=eJ (f:=f) (a:=a) (i:=0) (j:=n) (n:=n+1) (by omega) (by omega) hi;exact⟨AT (f:=f) lt n (swp a 0 n) 0 (by omega) (by omega) (λk m h1 h2=>hs k m (by omega) (by omega)),λx=>ly lt x n (swp a 0 n) 0 (by omega) (by omega)⟩
end
theorem CO{a:Nat->Nat}{n:Nat}(hi:gN (λx:Nat=>x) a (n+1))(x:Nat):(∃k,k<n/\eX ltN a n k=x)↔(∃k,k<n+1/\a k=x)/\¬x=a 0:=by
 rw[(vC (lt:=ltN) hi).2 x];constructor
 .rintro⟨k,k1,k2⟩
  by_cases e:k=0
  .subst e
   have e1:swp a 0 n 0=a n:=by unfold swp;rw[if_pos rfl]
   rw[e1]at k2;exact⟨⟨n,by omega,k2⟩,λq=>by have:=hi n 0 (by omega) (by omega) (by show a n=a 0;omega);omega⟩
  .have e1:swp a 0 n k=a k:=by unfold swp;rw[if_neg e,if_neg (by omega)]
   rw[e1]at k2;exact⟨⟨k,by omega,k2⟩,λq=>by have:=hi k 0 (by omega) (by omega) (by show a k=a 0;omega);omega⟩
 .rintro⟨⟨k,k1,k2⟩,k3⟩
  have hk0:¬k=0:=λe=>k3 (by rw[<-k2,e])
  by_cases e:k=n
  .subst e
   exact⟨0,by omega,by unfold swp;rw[if_pos rfl];exact k2⟩
  .exact⟨k,by omega,by unfold swp;rw[if_neg hk0,if_neg e];exact k2⟩
def DS.reuse(s:DS)(id:Nat):DS:={s with pg:=upd s.pg (id-1) (true,0)}
section
variable{w w':World}{db c mb nf:Nat}{s:DS}{pv fv:Value}{fh:Nat->Nat}{F:Nat->Prop}
theorem DC.least(h:DC w db s c pv fv mb fh (nf+1)):1<=fh 0/\fh 0<=s.np/\(s.pg (fh 0-1)).1=false/\∀x,1<=x->x<=s.np->(s.pg (x-1)).1=false->fh 0<=x:=by
 obtain⟨h1,h2,h3⟩:=(h.fm (fh 0)).1 ⟨0,by omega,rfl⟩;refine⟨h1,h2,h3,λx x1 x2 x3=>?_⟩;obtain⟨k,k1,k2⟩:=(h.fm x).2 ⟨x1,x2,x3⟩;have:=h.hp.root oW k k1;unfold ltN at this;simp at this;omega
theorem DC.reused(h:DC w db s c pv fv mb fh (nf+1)){w1:World}(hF:∀i,F i↔i=db\/fv.ownBlock=some i)(hr:HRd db (dH s pv fv mb) w1 (eX ltN fh nf) nf F)(f1:Fr F w w1):
  w1.cell? ⟨db,1,none⟩=some pv/\db<w1.heap.size/\SlF w1 83 2 pv s.np (pgF s.pg)/\
  Hid (∀w2,SlF w2 83 2 pv s.np (pgF (upd s.pg (fh 0-1) (true,0)))->Fr (λi=>pv.ownBlock=some i) w1 w2->(∃fv',DC w2 db (s.reuse (fh 0)) c pv fv' mb (eX ltN fh nf) nf/\∀b,fv'.ownBlock=some b->fv.ownBlock=some b)/\Fr (FD db pv fv mb) w w2):=by
 obtain⟨fv',hb,hsl,hd,hn,hFe⟩:=hr;rw[AS]at hb;obtain⟨l1,l2,l3,l4⟩:=h.least
 have ho:∀b,fv'.ownBlock=some b->fv.ownBlock=some b:=by
  intro b q;rcases(hF b).1 ((hFe b).2 (.inr q))with e|e
  .exact absurd e (hd b q)
  .exact e
 have hs1:SlF w1 83 2 pv s.np (pgF s.pg):=h.po.fr f1 (λb q e=>by rcases(hF b).1 e with e|e;exact(h.n1 b q).1 e;exact(h.n1 b q).2.2 e);refine⟨hb.cell (i:=1) (by omega),hb.lt,hs1,?_⟩;intro w2 hs f2;have n1':∀b,pv.ownBlock=some b->¬b=db/\¬b=mb/\¬fv'.ownBlock=some b:=λb q=>⟨(h.n1 b q).1,(h.n1 b q).2.1,λq2=>(h.n1 b q).2.2 (ho b q2)⟩
 have hi:=(vC (lt:=ltN) h.inj).1
 have hfm:∀x,(∃k,k<nf/\eX ltN fh nf k=x)↔1<=x/\x<=s.np/\(upd s.pg (fh 0-1) (true,0) (x-1)).1=false:=by
  intro x;rw[CO h.inj x,h.fm x];by_cases e:x=fh 0
  .subst e
   rw[upd_same];exact⟨λq=>absurd rfl q.2,λq=>absurd q.2.2 (by simp)⟩
  .constructor
   .rintro⟨q,_⟩
    rw[aa _ _ (by omega)];exact q
   .intro q
    rw[aa _ _ (by omega)]at q;exact⟨q,e⟩
 refine⟨⟨fv',⟨hb.fr f2 (λe=>(h.n1 db e).1 rfl),hs,hsl.fr f2 (λb q e=>(n1' b e).2.2 q),(h.mp.fr f1 (λe=>by rcases(hF mb).1 e with e|e;exact h.n3 e;exact(h.n2 mb e).2 rfl)).fr f2 (λe=>(h.n1 mb e).2.1 rfl),n1',λb q=>h.n2 b (ho b q),h.n3,h.r1,h.r2,Bu oW h.hp,hi,by show nf<=s.np;have:=h.nn;omega,hfm,h.ct,h.lr,h.fb⟩,ho⟩,?_⟩;exact(f1.mono (λi q=>by rcases(hF i).1 q with q|q;exact .inl q;exact .inr (.inr (.inr q)))).trans f2 (λi q=>.inl (.inr (.inr (.inl q))))
theorem nO(h:DC w db s c pv fv mb fh (nf+1)):Calls prog 61 #[.pointer (some ⟨db,0,none⟩)] w λe w'=>e=.returned (.tuple #[.int .u32 (fh 0:Nat),.int .i64 0])/\
  (∃fv',DC w' db (s.reuse (fh 0)) c pv fv' mb (eX ltN fh nf) nf/\∀b,fv'.ownBlock=some b->fv.ownBlock=some b)/\Fr (FD db pv fv mb) w w':=by
 have c2:w.cell? ⟨db,2,none⟩=some fv:=h.ce 2 (by omega);obtain⟨l1,l2,l3,l4⟩:=h.least;have hsm:=h.small;have hnr:=h.r2;have hrr:=h.r1;have lb:=h.hd.lt;have HP:Hid (Calls prog 80 #[.iface 195 (.pointer (some ⟨db,2,none⟩))] w λe w'=>e=.returned (sV (fh 0))/\HRd db (dH s pv fv mb) w' (eX ltN fh nf) nf (λi=>i=db\/fv.ownBlock=some i)/\Fr (λi=>i=db\/fv.ownBlock=some i) w w'):=zL (uP db (dH s pv fv mb)) (h.heap (Fr.refl _ w))
 have K:Hid (∀w1,HRd db (dH s pv fv mb) w1 (eX ltN fh nf) nf (λi=>i=db\/fv.ownBlock=some i)->Fr (λi=>i=db\/fv.ownBlock=some i) w w1->∃g cap,pv=.slice (some ⟨g,0,none⟩) s.np cap/\s.np<=cap/\cap<=9223372036854775807/\¬g=db/\w1.cell? ⟨db,1,none⟩=some pv/\db<w1.heap.size/\g<w1.heap.size/\(∀i,w1.frozen? ⟨g,i,none⟩=false)/\w1.cell? ⟨g,(fh 0-1)*2,none⟩=some (.bool (s.pg (fh 0-1)).1)/\w1.cell? ⟨g,(fh 0-1)*2+1,none⟩=some (.int .u64 (s.pg (fh 0-1)).2)/\
   Hid ((∃fv',DC ((w1.setCell ⟨g,(fh 0-1)*2,none⟩ (.bool true)).setCell ⟨g,(fh 0-1)*2+1,none⟩ (.int .u64 0)) db (s.reuse (fh 0)) c pv fv' mb (eX ltN fh nf) nf/\∀b,fv'.ownBlock=some b->fv.ownBlock=some b)/\Fr (FD db pv fv mb) w ((w1.setCell ⟨g,(fh 0-1)*2,none⟩ (.bool true)).setCell ⟨g,(fh 0-1)*2+1,none⟩ (.int .u64 0)))):=by
  intro w1 hr f1;obtain⟨r1,r2,r3,r4⟩:=h.reused (λi=>Iff.rfl) hr f1;obtain⟨g,cap,p1,p2,p3,p4,p5,p6⟩:=r3.at (by omega);refine⟨g,cap,p1,p2,by unfold maxLen at p3;omega,(h.n1 g (by rw[p1];rfl)).1,r1,r2,p4,p5,by rw[p6 _ (by omega),qn],by rw[p6 _ (by omega),kY],?_⟩;subst p1;have hs:=(r3.set (i:=(fh 0-1)*2) (by omega) (.bool true)).set (i:=(fh 0-1)*2+1) (by omega) (.int .u64 (0:Nat));rw[oX]at hs;exact r4.out _ hs ((((Fr.refl (λi=>i=g) w1).setCell (p:=⟨g,(fh 0-1)*2,none⟩) (.inl rfl) _).setCell (p:=⟨g,(fh 0-1)*2+1,none⟩) (.inl rfl) _).mono (λi q=>by rw[q];rfl))
 obtain⟨fa,fc,rfl,_,_⟩:=h.fo.shape;clear h l3 l4;unfold sV at HP;have hta:∀t:Int,∀W:World,(Instr.typeAssert (.iface 34 (.int .u32 t)) 20 34 false).run prog W=.ok (.int .u32 t) W:=λt W=>by kernel_rfl
 obtain⟨k,hk⟩:∃k,fh 0=k+1:=⟨fh 0-1,by omega⟩;rw[hk]at K HP l1 l2⊢;rw[show k+1-1=k from by omega]at K;have hks:((k+1:Nat):Int)-1=(k:Int):=by omega
 have hkn:k<s.np:=by omega
 have hta2:=hta ((k:Int)+1);have hta3:=hta ((k+1:Nat):Int);clear hta hk;have hnf:0<((nf+1:Nat):Int):=by omega
 go_enter func61,ntmps61
 go_wp2_with fail
 refine HP.out.mono ?_;rintro e w1⟨rfl,hr,f1⟩;obtain⟨g,cap,hpv,e1,e2,e3,e4,e5,e6,e7,e8,e9,KK⟩:=K.out w1 hr f1;have HPV:=Hd hpv;rw[hpv]at e4;have f70:=e7 (k*2);have f71:=e7 (k*2+1);clear hr f1 hpv K e7;go_wp2;go_returns;exact⟨rfl,KK.out⟩
end
def kz(pg:Nat->Bool×Nat)(k:Nat):List Nat:=((List.range k).filter λi=>(pg i).1).map (· +1)
theorem wV(pg:Nat->Bool×Nat)(k:Nat):kz pg (k+1)=if(pg k).1=true then kz pg k++[k+1]else kz pg k:=by
 unfold kz;rw[List.range_succ,List.filter_append,List.map_append];by_cases h:(pg k).1=true
 .simp[h]
 .simp[h]
theorem zc(pg:Nat->Bool×Nat)(k:Nat):(kz pg k).length<=k:=by
 unfold kz;rw[List.length_map];exact Nat.le_trans (List.length_filter_le _ _) (by rw[List.length_range];exact Nat.le_refl _)
theorem OwK.made{w w0:World}(hf:w0.heap.size<=w.heap.size)(k:IntKind)(e:TypeId)(cs:Array Value)(g c:Nat)(hg:g=w.heap.size)(hs:cs.size=c)(hm:c<=maxLen):OwK k w0.heap.size e (w.alloc (.cells cs e)) (.slice (some ⟨g,0,none⟩) 0 c) []:=by
 subst hg;exact⟨rfl,.inr ⟨w.heap.size,c,cs,rfl,hf,heap_alloc_new _ _ _ rfl,Nat.zero_le _,hm,by rw[hs,Nat.mul_one],by simp⟩⟩
theorem OwK.fr{k:IntKind}{base:Nat}{e:TypeId}{w w':World}{v:Value}{l:List Nat}(h:OwK k base e w v l)(f:Fr NoF w w'):OwK k base e w' v l:=ak h f (λ_ _ q=>q)
section
variable{w w':World}{db c mb nf:Nat}{s:DS}{pv fv:Value}{fh:Nat->Nat}{F:Nat->Prop}
theorem yq(h:DC w db s c pv fv mb fh nf):Calls prog 12 #[.pointer (some ⟨db,0,none⟩)] w λe w'=>∃v,e=.returned v/\OwK .u32 w.heap.size 34 w' v (kz s.pg s.np)/\Fr NoF w w':=by
 have c1:w.cell? ⟨db,1,none⟩=some pv:=h.ce 1 (by omega);have c2:w.cell? ⟨db,2,none⟩=some fv:=h.ce 2 (by omega);have lb:=h.hd.lt;have hnn:=h.nn;have hnr:=h.r2;have hrr:=h.r1;obtain⟨fa,fc,rfl,_,_⟩:=h.fo.shape;obtain⟨va,vc,rfl,v1,v2⟩:=h.po.shape;unfold maxLen at v2;obtain⟨i0,hi0,hz0,hz1,hz2⟩:=bq (P:=prog) (e:=34) (z:=.int .u32 0) (s:=1) (b:=4) (by kernel_rfl)
 have mk1:∀w:World,(Instr.makeSlice 51 (.int .i64 0) (.int .i64 ((s.np:Int)-(nf:Int)))).run prog w=
   .ok (.slice (some ⟨w.heap.size,0,none⟩) 0 (s.np-nf)) (w.alloc (.cells (madeCells #[.int .u32 0] (s.np-nf)) 34)):=by
  intro w;have:=run_make (P:=prog) w 51 34 i0 _ underlying51 hi0 hz0 .i64 .i64 (0:Int) ((s.np:Int)-(nf:Int)) (by omega) (by omega) (by rw[hz2];omega) (by omega);rw[show((s.np:Int)-(nf:Int)).toNat=s.np-nf from by omega,hz1,Nat.mul_one]at this;exact this
 have hwr:IntKind.i64.wrap ((s.np:Int)-(nf:Int))=(s.np:Int)-(nf:Int):=IntWalk.i64_in _ (by omega);have HP:=Hd h.po
 have HMD:Hid (∀d,OwK .u32 w.heap.size 34 ((w.alloc (.cells (madeCells #[.int .u32 0] (s.np-nf)) 34)).drewN d) (.slice (some ⟨w.heap.size,0,none⟩) 0 (s.np-nf)) (kz s.pg 0)):=by
  intro d;exact(OwK.made (Nat.le_refl _) .u32 34 _ _ _ rfl (by simp[size_madeCells]) (by unfold maxLen;omega)).fr ((Fr.refl NoF _).drewN d)
 clear h hi0 hz0 hz1 hz2;go_enter func12,ntmps12;go_wp2
 go_region
 go_wp2
 go_loopw [3,25] (λo i wr=>∃k:Nat,k<=s.np/\i=.int .i64 k/\OwK .u32 w.heap.size 34 wr o (kz s.pg k)/\Fr NoF w wr) (λ_ i _=>s.np-(intOf i).toNat)
 case atStart=>
  refine⟨0,Nat.zero_le _,rfl,?_,((Fr.refl NoF w).alloc _).drew⟩;exact(OwK.made (Nat.le_refl _) .u32 34 _ _ _ rfl (by simp[size_madeCells]) (by unfold maxLen;omega)).fr ((Fr.refl NoF _).drew)
 case round=>
  obtain⟨k,hk,rfl,ho,hf⟩:=hrel;have HO:=Hd ho;have HF:=Hd hf;have hsz:=hf.size;by_cases hlt:k<s.np
  .obtain⟨g,cap,ev,q1,q2,q3,q4,q5⟩:=(HP.out.fr0 hf).at (by omega)
   simp only[Value.slice.injEq]at ev;obtain⟨rfl,_,rfl⟩:=ev;have cy0:=q5 (k*2) (by omega);have cy1:=q5 (k*2+1) (by omega);rw[qn]at cy0;rw[kY]at cy1;have hS:=wV s.pg k;have hL:=zc s.pg k;have hcw:IntKind.u32.wrap ((k:Int)+1)=(k:Int)+1:=IntWalk.u32_in _ (by omega);clear q5
   cases hb:(s.pg k).1 with
   |false=>
    rw[hb]at cy0 hS;have HS:=Hd hS;clear hS hb ho hf hL;generalize(s.pg k).2=val at*;go_wp2
    go_roundw
    case rel=>exact⟨k+1,by omega,by go_num,by rw[HS.out,if_neg (by simp)];exact HO.out.fr (by repeat(first|exact Fr.refl NoF _|apply Fr.alloc|(refine Fr.setCell ?_ (.inr (by simp)) _))),HF.out.trans (G:=NoF) (by repeat(first|exact Fr.refl NoF _|apply Fr.alloc|(refine Fr.setCell ?_ (.inr (by simp)) _))) (λ_ q=>q.elim)⟩
    case measure=>simp[intOf];omega
   |true=>
    rw[hb]at cy0 hS;rw[if_pos rfl]at hS;have HS:=Hd hS;clear hS hb ho hf;generalize(s.pg k).2=val at*;have f2:Fr NoF wr ((wr.alloc (.cells #[.bool true,.int .u64 (val:Nat)] 83)).alloc (.cells #[.int .u32 ((k:Int)+1)] 34)):=((Fr.refl NoF wr).alloc _).alloc _;have FF2:=Hd f2;clear f2
    go_wp2_with(at_builtin;go_must(refine eT (base:=w.heap.size) EIu rfl _ _ rfl (by rfl) (by rfl) (by simp;omega) (ak HO.out FF2.out (λ_ _ q=>q)) (SlC.ofOwn (aQ (w0:=wr) (by simp) #[.int .u32 ((k:Int)+1)] 34 1 1 _ (by simp) rfl (by unfold maxLen;omega)) (by simp[Value.oneCell'])) (by unfold maxLen;omega) (by omega) ?_);intro v' w2 hown' hf' _;have HF':=Hd hf';have HO':=Hd hown';clear cy0 cy1 hf' hown')
    go_roundw
    case rel=>
     refine⟨k+1,by omega,by go_num,?_,?_⟩
     .rw[HS.out];exact OwK.snoc HO'.out
     .refine(HF.out.trans FF2.out (λ_ q=>q.elim)).trans HF'.out (λi hi=>.inr ?_)
      exact HO.out.base i hi
    case measure=>simp[intOf];omega
  .obtain rfl:k=s.np:=by omega
   clear ho hf;go_wp2;go_returns;exact⟨_,rfl,HO.out,HF.out⟩
end
end
end Go.Proofs.YtoenclhimbpfeaaGreatDoor
