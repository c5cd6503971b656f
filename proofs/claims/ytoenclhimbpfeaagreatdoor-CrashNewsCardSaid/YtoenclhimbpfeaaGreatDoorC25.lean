/- Part 25. -/
import Derived.Test.YtoenclhimbpfeaaGreatDoorC24
import Derived.Test.YtoenclhimbpfeaaGreatDoorC23
namespace Go.Proofs.YtoenclhimbpfeaaGreatDoor
set_option linter.all false
set_option maxHeartbeats 16000000
set_option maxRecDepth 100000
section
open Go.Maps Go.Proofs.Tryz Go.RowKit
structure T7 where
 nw:List Nat
 mn:List Nat
 page:Nat->Nat
 ev:Nat->Bool
 b1:List Nat
 b2:List Nat
 goal:Nat
theorem twH_goal(A:TA)(n g out s z:Nat):upd (twH A n g out s) 0 (.int .i64 z)=twH A n z out s:=by
 funext j
 match j with
 |0=>rfl
 |1=>rfl
 |2=>rfl
 |3=>rfl
 |4=>rfl
 |5=>rfl
 |6=>rfl
 |7=>rfl
 |j+8=>simp[upd,twH]
structure AC(w:World)(b n:Nat)(A:TA)(t:T7)(k1 k2 sp:List Nat)(gp:Nat->Nat):Prop where
 hd:Blk w b 8 (twH A n t.goal (n+1) (cntL (t.nw++t.mn) t.ev))
 rr:RR w A.rb n 2 [t.nw,t.mn] A.FR
 pg:Blk w A.pb n (uN t.page)
 be:Blk w A.eb n (bF t.ev)
 gg:GA w A.gr A.gpb A.mb (n+1) k1 k2 sp gp t.b1 t.b2 A.FG
 lb:TL b A
 ou:∀f,t.ev f=true->f∈t.nw∨f∈t.mn
 hn:n<=65535
 hi:t.goal<=n
 hb:t.b1.length+t.b2.length<=n
section
variable{w w':World}{b n:Nat}{A:TA}{t:T7}{k1 k2 sp:List Nat}{gp:Nat->Nat}
theorem AC.fr(h:AC w b n A t k1 k2 sp gp){G:Nat->Prop}(f:Fr G w w')(hG:∀i,FT A b i->¬G i):AC w' b n A t k1 k2 sp gp:=
 ⟨h.hd.fr f (hG _ (.inl rfl)),h.rr.fr f (fun i q=>hG i (.inr (.inr (.inr (.inl q))))),h.pg.fr f (hG _ (.inr (.inl rfl))),h.be.fr f (hG _ (.inr (.inr (.inl rfl)))),h.gg.fr f (fun i q=>hG i (.inr (.inr (.inr (.inr (.inl q)))))) (hG _ (.inr (.inr (.inr (.inr (.inr (.inl rfl))))))) (hG _ (.inr (.inr (.inr (.inr (.inr (.inr rfl))))))),h.lb,h.ou,h.hn,h.hi,h.hb⟩
theorem AC.fr0(h:AC w b n A t k1 k2 sp gp)(f:Fr NoF w w'):AC w' b n A t k1 k2 sp gp:=h.fr f (fun _ _ q=>q)
theorem AC.lt(h:AC w b n A t k1 k2 sp gp):∀i,FT A b i->i<w.heap.size:=by
 rintro i(rfl|rfl|rfl|q|q|rfl|rfl)
 .exact h.hd.lt
 .exact h.pg.lt
 .exact h.be.lt
 .exact h.rr.lt i q
 .exact h.gg.rr.lt i q
 .exact h.gg.pg.lt
 .exact h.gg.mp.lt
theorem AC.c(h:AC w b n A t k1 k2 sp gp)(i:Nat)(hi:i<8):w.cell? ⟨b,i,none⟩=some (twH A n t.goal (n+1) (cntL (t.nw++t.mn) t.ev) i):=h.hd.cell hi
theorem AC.cp(h:AC w b n A t k1 k2 sp gp){f:Nat}(hf:f<n):w.cell? ⟨A.pb,f,none⟩=some (.int .u32 (t.page f:Nat)):=h.pg.cell hf
theorem AC.ce(h:AC w b n A t k1 k2 sp gp){f:Nat}(hf:f<n):w.cell? ⟨A.eb,f,none⟩=some (.bool (t.ev f)):=h.be.cell hf
theorem AC.gH(h:AC w b n A t k1 k2 sp gp):GH w b A.gr A.gpb A.mb (n+1) A.FG:=by
 refine⟨h.c 5 (by omega),h.c 6 (by omega),h.c 7 (by omega),h.hd.lt,fun q=>?_,fun q=>?_,fun q=>?_⟩
 .have:=h.lb.l4 _ q;rw[h.lb.l0]at this;cases this
 .have:=h.lb.l5;rw[<-q,h.lb.l0]at this;cases this
 .have:=h.lb.l6;rw[<-q,h.lb.l0]at this;cases this
theorem AC.lists(h:AC w b n A t k1 k2 sp gp):(t.nw++t.mn).Nodup∧(∀x∈t.nw,x<n)∧(∀x∈t.mn,x<n)∧(∀x∈t.nw,¬x∈t.mn)∧(t.nw++t.mn).length<=n:=by
 obtain⟨h1,h2,h3,h4,h5⟩:=h.rr.row2
 have hnd:(t.nw++t.mn).Nodup:=by
  rw[List.nodup_append];exact⟨h1,h2,fun x hx y hy e=>h5 x hx (e▸hy)⟩
 refine⟨hnd,h3,h4,h5,?_⟩;have:=List.Nodup.length_le_of_subset (l₁:=t.nw++t.mn) (l₂:=List.range n) hnd (fun y hy=>List.mem_range.2 ((List.mem_append.1 hy).elim (h3 y) (h4 y)));simpa using this
theorem ar_size(h:AC w b n A t k1 k2 sp gp):Calls prog 224 #[.pointer (some ⟨b,0,none⟩)] w fun e w'=>e=.returned (.int .i64 (cntL (t.nw++t.mn) t.ev:Nat))∧w=w':=by
 have c4:w.cell? ⟨b,4,none⟩=some (.int .i64 (cntL (t.nw++t.mn) t.ev:Nat)):=h.c 4 (by omega);clear h;go_enter func224,ntmps224;go_wp2;go_returns;exact⟨rfl,rfl⟩
theorem ar_has(h:AC w b n A t k1 k2 sp gp)(f:Nat):Calls prog 227 #[.pointer (some ⟨b,0,none⟩),.int .i64 f] w fun e w'=>e=.returned (.bool (decide (f∈t.nw∨f∈t.mn)))∧w=w':=by
 have c1:w.cell? ⟨b,1,none⟩=some (.pointer (some ⟨A.rb,0,none⟩)):=h.c 1 (by omega);have HI:=In_all h.rr f;rw[ix2]at HI;by_cases hm:f∈t.nw
 .rw[if_pos hm]at HI
  have H:=Hd HI;have HD:Hid (decide (f∈t.nw∨f∈t.mn)=true):=by simp[Hid,hm]
  rw[HD.out];clear HI hm HD h;go_enter func227,ntmps227
  go_wp2_with(go_at_call 112;refine H.out.mono ?_;rintro e w'⟨rfl,rfl⟩)
  go_returns;exact⟨rfl,rfl⟩
 .rw[if_neg hm]at HI
  by_cases hm2:f∈t.mn
  .rw[if_pos hm2]at HI
   have H:=Hd HI;have HD:Hid (decide (f∈t.nw∨f∈t.mn)=true):=by simp[Hid,hm2]
   rw[HD.out];clear HI hm HD h hm2;go_enter func227,ntmps227
   go_wp2_with(go_at_call 112;refine H.out.mono ?_;rintro e w'⟨rfl,rfl⟩)
   go_returns;exact⟨rfl,rfl⟩
  .rw[if_neg hm2]at HI
   have H:=Hd HI;have HD:Hid (decide (f∈t.nw∨f∈t.mn)=false):=by simp[Hid,hm,hm2]
   rw[HD.out];clear HI hm HD h hm2;go_enter func227,ntmps227
   go_wp2_with(go_at_call 112;refine H.out.mono ?_;rintro e w'⟨rfl,rfl⟩)
   go_returns;exact⟨rfl,rfl⟩
def T7.setE(t:T7)(f:Nat)(v:Bool):T7:=if f∈t.nw∨f∈t.mn then⟨t.nw,t.mn,t.page,upd t.ev f v,t.b1,t.b2,t.goal⟩else t
theorem AC.setE(h:AC w b n A t k1 k2 sp gp){f:Nat}(hm:f∈t.nw∨f∈t.mn)(v:Bool){z:Nat}(hz:z=cntL (t.nw++t.mn) (upd t.ev f v)):
  AC ((w.setCell ⟨A.eb,f,none⟩ (.bool v)).setCell ⟨b,4,none⟩ (.int .i64 z)) b n A ⟨t.nw,t.mn,t.page,upd t.ev f v,t.b1,t.b2,t.goal⟩ k1 k2 sp gp:=by
 subst hz;obtain⟨n1,n2,n3,n4,n5,n6,n7,n8,n9,n10⟩:=h.lb.ne
 have f1:Fr (fun i=>i=A.eb∨i=b) w ((w.setCell ⟨A.eb,f,none⟩ (.bool v)).setCell ⟨b,4,none⟩ (.int .i64 (cntL (t.nw++t.mn) (upd t.ev f v):Nat))):=
  ((Fr.refl (fun i=>i=A.eb∨i=b) w).setCell (p:=⟨A.eb,f,none⟩) (.inl (.inl rfl)) _).setCell (p:=⟨b,4,none⟩) (.inl (.inr rfl)) _
 refine⟨?_,h.rr.fr f1 (fun i hi q=>?_),h.pg.fr f1 (fun q=>?_),?_,h.gg.fr f1 (fun i hi q=>?_) (fun q=>?_) (fun q=>?_),h.lb,fun g hg=>?_,h.hn,h.hi,h.hb⟩
 .rw[<-twH_sz A n t.goal (n+1) (cntL (t.nw++t.mn) t.ev)]
  exact(h.hd.other n2 _).set _ _
 .rcases q with rfl|rfl
  .exact n6 hi
  .exact n4 hi
 .rcases q with q|q
  .exact n3 q
  .exact n1 q.symm
 .rw[<-bF_set]
  exact(h.be.set _ _).other (fun e=>n2 e.symm) _
 .rcases q with rfl|rfl
  .exact n9 (.inl hi)
  .exact n7 (.inl hi)
 .rcases q with q|q
  .exact n9 (.inr (.inl q.symm))
  .exact n7 (.inr (.inl q.symm))
 .rcases q with q|q
  .exact n9 (.inr (.inr q.symm))
  .exact n7 (.inr (.inr q.symm))
 .by_cases e:g=f
  .rw[e];exact hm
  .have hg:upd t.ev f v g=true:=hg
   rw[upd_other _ _ e]at hg;exact h.ou g hg
theorem ar_set(h:AC w b n A t k1 k2 sp gp)(f:Nat)(hf:f<n)(v:Bool):
  Calls prog 223 #[.pointer (some ⟨b,0,none⟩),.int .i64 f,.bool v] w fun e w'=>e=.returned (.tuple #[])∧AC w' b n A (t.setE f v) k1 k2 sp gp∧Fr (fun i=>i=A.eb∨i=b) w w':=by
 have HH:=ar_has h f;have hn:=h.hn;have hcl:=cnt_le (t.nw++t.mn) t.ev;obtain⟨hnd,_,_,_,hln⟩:=h.lists;by_cases hm:f∈t.nw∨f∈t.mn
 .have c3:w.cell? ⟨b,3,none⟩=some (.slice (some ⟨A.eb,0,none⟩) n n):=h.c 3 (by omega)
  have c4:w.cell? ⟨b,4,none⟩=some (.int .i64 (cntL (t.nw++t.mn) t.ev:Nat)):=h.c 4 (by omega);have ce:=h.ce hf;have fe:∀i,w.frozen? ⟨A.eb,i,none⟩=false:=fun i=>h.be.frozen i
  have fb:w.frozen? ⟨b,4,none⟩=false:=h.hd.frozen 4;have le:=h.be.lt;have lb:=h.hd.lt;have hd1:=h.lb.ne.2.1;have hd1':¬A.eb=b:=fun e=>hd1 e.symm
  have hcu:=cnt_upd hnd t.ev f v (List.mem_append.2 hm);have HC:=Hd (fun(z:Nat) (hz:z=cntL (t.nw++t.mn) (upd t.ev f v))=>h.setE hm v hz);rw[show decide (f∈t.nw∨f∈t.mn)=true from by simp[hm]]at HH;have H:=Hd HH;have HS:Hid (t.setE f v=⟨t.nw,t.mn,t.page,upd t.ev f v,t.b1,t.b2,t.goal⟩):=by unfold Hid T7.setE;rw[if_pos hm]
  have HU:Hid (t.ev f=v->(⟨t.nw,t.mn,t.page,upd t.ev f v,t.b1,t.b2,t.goal⟩:T7)=t):=by
   intro e
   have:upd t.ev f v=t.ev:=by
    funext j;unfold upd;split
    .subst j;exact e.symm
    .rfl
   rw[this]
  have HLR:=Hd h
  have hfr:∀z,Fr (fun i=>i=A.eb∨i=b) w ((w.setCell ⟨A.eb,f,none⟩ (.bool v)).setCell ⟨b,4,none⟩ (.int .i64 z)):=fun z=>
   ((Fr.refl (fun i=>i=A.eb∨i=b) w).setCell (p:=⟨A.eb,f,none⟩) (.inl (.inl rfl)) _).setCell (p:=⟨b,4,none⟩) (.inl (.inr rfl)) _
  have HFR:=Hd hfr;clear h HH hm hfr hnd;rw[HS.out];clear HS;generalize cntL (t.nw++t.mn) (upd t.ev f v)=z1 at*;generalize cntL (t.nw++t.mn) t.ev=z0 at*;generalize(t.nw++t.mn).length=zl at*;generalize hev:t.ev f=x at*;have HE:=Hd hev;clear hev
  cases x<;>cases v
  .have hu:=HU.out rfl
   rw[hu];clear hu HU hcu;go_enter func223,ntmps223
   go_wp2_with(go_at_call 227;refine H.out.mono ?_;rintro e w'⟨rfl,rfl⟩)
   go_returns;exact⟨rfl,HLR.out,Fr.refl _ _⟩
  .simp at hcu
   have HCU:=Hd hcu;clear hcu;go_enter func223,ntmps223
   go_wp2_with(go_at_call 227;refine H.out.mono ?_;rintro e w'⟨rfl,rfl⟩)
   go_returns;have e1:((z0:Int)+1)=((z0+1:Nat):Int):=by omega
   rw[e1];exact⟨rfl,HC.out _ (by have:=HCU.out;omega),HFR.out _⟩
  .simp at hcu
   have h1:1<=(z0:Int):=by omega
   have HCU:=Hd hcu;clear hcu;go_enter func223,ntmps223
   go_wp2_with(go_at_call 227;refine H.out.mono ?_;rintro e w'⟨rfl,rfl⟩)
   go_returns;have e1:((z0:Int)-1)=((z0-1:Nat):Int):=by omega
   rw[e1];exact⟨rfl,HC.out _ (by have:=HCU.out;omega),HFR.out _⟩
  .have hu:=HU.out rfl
   rw[hu];clear hu HU hcu;go_enter func223,ntmps223
   go_wp2_with(go_at_call 227;refine H.out.mono ?_;rintro e w'⟨rfl,rfl⟩)
   go_returns;exact⟨rfl,HLR.out,Fr.refl _ _⟩
 .rw[show decide (f∈t.nw∨f∈t.mn)=false from by simpa using hm]at HH
  have H:=Hd HH;rw[show t.setE f v=t from if_neg hm];have HLR:=Hd h;clear h HH hm hcl hln hnd;go_enter func223,ntmps223
  go_wp2_with(go_at_call 227;refine H.out.mono ?_;rintro e w'⟨rfl,rfl⟩)
  go_returns;exact⟨rfl,HLR.out,Fr.refl _ _⟩
def T7.rem(t:T7)(f:Nat):T7:=if f∈t.nw∨f∈t.mn then⟨awayN t.nw f,awayN t.mn f,t.page,upd t.ev f false,t.b1,t.b2,t.goal⟩else t
theorem ar_remove(h:AC w b n A t k1 k2 sp gp)(f:Nat)(hf:f<n):
  Calls prog 222 #[.pointer (some ⟨b,0,none⟩),.int .i64 f] w fun e w'=>e=.returned (.tuple #[])∧AC w' b n A (t.rem f) k1 k2 sp gp∧Fr (FT A b) w w':=by
 have HH:=ar_has h f;by_cases hm:f∈t.nw∨f∈t.mn
 .rw[show decide (f∈t.nw∨f∈t.mn)=true from by simp[hm]]at HH
  have H:=Hd HH;have HS:=Hd (ar_set h f hf false);have HM:=Hd hm;have HL:=Hd h.lists;clear HH hm h;go_enter func222,ntmps222
  go_wp2_with(go_at_call 227;refine H.out.mono ?_;rintro e w'⟨rfl,rfl⟩)
  refine HS.out.mono ?_;clear HS;rintro e w1⟨rfl,hc1,f1⟩;rw[show t.setE f false=⟨t.nw,t.mn,t.page,upd t.ev f false,t.b1,t.b2,t.goal⟩from if_pos HM.out]at hc1;have c1:w1.cell? ⟨b,1,none⟩=some (.pointer (some ⟨A.rb,0,none⟩)):=hc1.c 1 (by omega);have HO:=Hd (Out_all hc1.rr f);have HC1:=Hd hc1;have HF:=Hd f1;clear hc1 f1
  go_wp2_with fail
  refine HO.out.mono ?_;clear HO;rintro e w2⟨rfl,hR,f2⟩
  have key:AC w2 b n A (t.rem f) k1 k2 sp gp:=by
   have hc:=HC1.out;obtain⟨n1,n2,n3,n4,n5,n6,n7,n8,n9,n10⟩:=hc.lb.ne;obtain⟨hnd,h3,h4,h5,_⟩:=HL.out
   have hR':RR w2 A.rb n 2 [awayN t.nw f,awayN t.mn f] A.FR:=by
    have:outZ [t.nw,t.mn] (f:Int)=[awayN t.nw f,awayN t.mn f]:=by rw[outZ,if_pos (by omega)];exact outL2 h5 f
    rw[this]at hR;exact hR
   rw[show t.rem f=⟨awayN t.nw f,awayN t.mn f,t.page,upd t.ev f false,t.b1,t.b2,t.goal⟩from if_pos HM.out];refine⟨?_,hR',hc.pg.fr f2 n5,hc.be.fr f2 n6,hc.gg.fr f2 (fun i hi q=>n10 i q (.inl hi)) (fun q=>n10 _ q (.inr (.inl rfl))) (fun q=>n10 _ q (.inr (.inr rfl))),hc.lb,fun g hg=>?_,hc.hn,hc.hi,hc.hb⟩
   .have h1:=cnt_away hnd (upd t.ev f false) f
    rw[if_neg (by rw[upd_same];simp)]at h1;have h2:awayL (t.nw++t.mn) f=awayN t.nw f++awayN t.mn f:=by unfold awayL awayN;rw[List.filter_append]
    rw[h2]at h1
    show Blk w2 b 8 (twH A n t.goal (n+1) (cntL (awayN t.nw f++awayN t.mn f) (upd t.ev f false)))
    rw[show cntL (awayN t.nw f++awayN t.mn f) (upd t.ev f false)=cntL (t.nw++t.mn) (upd t.ev f false)from by omega];exact hc.hd.fr f2 n4
   .have hg':upd t.ev f false g=true:=hg
    have hgf:¬g=f:=by rintro rfl;rw[upd_same]at hg';cases hg'
    rcases hc.ou g hg with q|q
    .exact .inl (by simpa[awayN]using⟨q,hgf⟩)
    .exact .inr (by simpa[awayN]using⟨q,hgf⟩)
  have hfr:Fr (FT A b) w w2:=(HF.out.mono (fun i q=>q.elim (fun q=>.inr (.inr (.inl q))) (fun q=>.inl q))).trans f2 (fun i q=>.inl (.inr (.inr (.inr (.inl q)))));have KEY:=Hd (And.intro key hfr);clear hR f2 key hfr;go_wp2;go_returns;exact⟨rfl,KEY.out⟩
 .rw[show decide (f∈t.nw∨f∈t.mn)=false from by simpa using hm]at HH
  have H:=Hd HH;rw[show t.rem f=t from if_neg hm];have HLR:=Hd h;clear h HH hm;go_enter func222,ntmps222
  go_wp2_with(go_at_call 227;refine H.out.mono ?_;rintro e w'⟨rfl,rfl⟩)
  go_returns;exact⟨rfl,HLR.out,Fr.refl _ _⟩
end
def T7.acc(t:T7)(f id:Nat):T7:=if f∈t.nw∨f∈t.mn then⟨awayN t.nw f,awayN t.mn f++[f],t.page,t.ev,t.b1,t.b2,t.goal⟩else if id∈t.b1++t.b2 then⟨t.nw,t.mn++[f],upd t.page f id,t.ev,awayN t.b1 id,awayN t.b2 id,t.goal⟩else⟨t.nw++[f],t.mn,upd t.page f id,t.ev,t.b1,t.b2,t.goal⟩
section
variable{w w':World}{b n:Nat}{A:TA}{t:T7}{k1 k2 sp:List Nat}{gp:Nat->Nat}
theorem cnt_again{l m:List Nat}(hn:(l++m).Nodup)(ev:Nat->Bool){f:Nat}(hm:f∈l∨f∈m):cntL (awayN l f++(awayN m f++[f])) ev=cntL (l++m) ev:=by
 have:=cnt_back hn ev f (fun _=>List.mem_append.2 hm);rw[<-this,<-List.append_assoc];have e:backL (l++m) f=awayN l f++awayN m f++[f]:=by unfold backL awayL awayN;rw[List.filter_append]
 rw[e]
theorem AC.laid(h:AC w b n A t k1 k2 sp gp){f id:Nat}(hf:f<n){b1 b2:List Nat}{k1' k2' sp':List Nat}{gp':Nat->Nat}{w1 w2:World}(hg:GA w1 A.gr A.gpb A.mb (n+1) k1' k2' sp' gp' b1 b2 A.FG)(f1:Fr (FGm A.FG A.gpb A.mb) w w1)(hb:b1.length+b2.length<=n){nw' mn':List Nat}
  (hR:RR w2 A.rb n 2 [nw',mn'] A.FR)(f2:Fr A.FR (w1.setCell ⟨A.pb,f,none⟩ (.int .u32 id)) w2)(hc:cntL (nw'++mn') t.ev=cntL (t.nw++t.mn) t.ev)(hou:∀x,x∈t.nw∨x∈t.mn->x∈nw'∨x∈mn'):
  AC w2 b n A ⟨nw',mn',upd t.page f id,t.ev,b1,b2,t.goal⟩ k1' k2' sp' gp'∧Fr (FT A b) w w2:=by
 obtain⟨n1,n2,n3,n4,n5,n6,n7,n8,n9,n10⟩:=h.lb.ne;have fs:Fr (fun i=>i=A.pb) w1 (w1.setCell ⟨A.pb,f,none⟩ (.int .u32 id)):=(Fr.refl (fun i=>i=A.pb) w1).setCell (p:=⟨A.pb,f,none⟩) (.inl rfl) _;refine⟨⟨?_,hR,?_,((h.be.fr f1 n9).fr fs (fun e=>n3 e.symm)).fr f2 n6,(hg.fr fs (fun i hi e=>n8 (e▸.inl hi)) (fun e=>n8 (.inr (.inl e.symm))) (fun e=>n8 (.inr (.inr e.symm)))).fr f2 (fun i hi q=>n10 i q (.inl hi)) (fun q=>n10 _ q (.inr (.inl rfl))) (fun q=>n10 _ q (.inr (.inr rfl))),h.lb,fun x hx=>hou x (h.ou x hx),h.hn,h.hi,hb⟩,?_⟩
 .show Blk w2 b 8 (twH A n t.goal (n+1) (cntL (nw'++mn') t.ev))
  rw[hc];exact((h.hd.fr f1 n7).fr fs n1).fr f2 n4
 .rw[<-uN_set]
  exact((h.pg.fr f1 n8).set _ _).fr f2 n5
 .refine((f1.mono (fun i q=>?_)).trans fs (fun i q=>.inl (.inr (.inl q)))).trans f2 (fun i q=>.inl (.inr (.inr (.inr (.inl q)))))
  exact .inr (.inr (.inr (.inr q)))
theorem away_le2(b1 b2:List Nat)(x:Nat):(awayN b1 x).length+(awayN b2 x).length<=b1.length+b2.length:=by
 have h1:=List.length_filter_le (fun y=>!decide (y=x)) b1;have h2:=List.length_filter_le (fun y=>!decide (y=x)) b2;unfold awayN;omega
theorem ar_access_in(h:AC w b n A t k1 k2 sp gp){f id:Nat}(hf:f<n)(hm:f∈t.nw∨f∈t.mn):
  Calls prog 219 #[.pointer (some ⟨b,0,none⟩),.int .i64 f,.int .u32 id] w fun e w'=>e=.returned (.tuple #[])∧(∃k1' k2' sp' gp',AC w' b n A (t.acc f id) k1' k2' sp' gp')∧Fr (FT A b) w w':=by
 have c1:w.cell? ⟨b,1,none⟩=some (.pointer (some ⟨A.rb,0,none⟩)):=h.c 1 (by omega);have c2:w.cell? ⟨b,2,none⟩=some (.slice (some ⟨A.pb,0,none⟩) n n):=h.c 2 (by omega);have hn:=h.hn;have HH:=ar_has h f;rw[show decide (f∈t.nw∨f∈t.mn)=true from by simp[hm]]at HH;have H:=Hd HH;have HB:=Hd (back_yes h.rr 1 f (by omega) hf)
 have KEY:Hid (∀w2,RR w2 A.rb n 2 (putL [t.nw,t.mn] 1 f false) A.FR->Fr A.FR w w2->(∃k1' k2' sp' gp',AC w2 b n A (t.acc f id) k1' k2' sp' gp')∧Fr (FT A b) w w2):=by
  intro w2 hR f2;obtain⟨n1,n2,n3,n4,n5,n6,n7,n8,n9,n10⟩:=h.lb.ne;have hl:=h.lists;rw[putL2_1 hl.2.2.2.1]at hR;rw[show t.acc f id=⟨awayN t.nw f,awayN t.mn f++[f],t.page,t.ev,t.b1,t.b2,t.goal⟩from if_pos hm];refine⟨⟨k1,k2,sp,gp,⟨?_,hR,h.pg.fr f2 n5,h.be.fr f2 n6,h.gg.fr f2 (fun i hi q=>n10 i q (.inl hi)) (fun q=>n10 _ q (.inr (.inl rfl))) (fun q=>n10 _ q (.inr (.inr rfl))),h.lb,fun x hx=>?_,h.hn,h.hi,h.hb⟩⟩,f2.mono (fun i q=>.inr (.inr (.inr (.inl q))))⟩
  .show Blk w2 b 8 (twH A n t.goal (n+1) (cntL (awayN t.nw f++(awayN t.mn f++[f])) t.ev))
   rw[cnt_again hl.1 t.ev hm];exact h.hd.fr f2 n4
  .show x∈awayN t.nw f∨x∈awayN t.mn f++[f]
   by_cases e:x=f
   .right;simp[e]
   .rcases h.ou x hx with q|q
    .exact .inl (List.mem_filter.2 ⟨q,by simpa using e⟩)
    .exact .inr (List.mem_append.2 (.inl (List.mem_filter.2 ⟨q,by simpa using e⟩)))
 clear h HH hm;go_enter func219,ntmps219
 go_wp2_with(go_at_call 227;refine H.out.mono ?_;rintro e w'⟨rfl,rfl⟩)
 refine HB.out.mono ?_;clear HB H;rintro e w2⟨rfl,hR,f2⟩;have K:=Hd (KEY.out w2 hR f2);clear hR f2;go_wp2;go_returns;exact⟨rfl,K.out⟩
theorem ar_access_old(h:AC w b n A t k1 k2 sp gp){f id:Nat}(hf:f<n)(hm:¬(f∈t.nw∨f∈t.mn))(hid:id∈t.b1++t.b2):
  Calls prog 219 #[.pointer (some ⟨b,0,none⟩),.int .i64 f,.int .u32 id] w fun e w'=>e=.returned (.tuple #[])∧(∃k1' k2' sp' gp',AC w' b n A (t.acc f id) k1' k2' sp' gp')∧Fr (FT A b) w w':=by
 obtain⟨p,hp,rfl⟩:=h.gg.mem hid;have c2:w.cell? ⟨b,2,none⟩=some (.slice (some ⟨A.pb,0,none⟩) n n):=h.c 2 (by omega);have hn:=h.hn;have HHA:=ar_has h f;rw[show decide (f∈t.nw∨f∈t.mn)=false from by simpa using hm]at HHA;have H:=Hd HHA;have HE:Hid (t.acc f (gp p)=⟨t.nw,t.mn++[f],upd t.page f (gp p),t.ev,awayN t.b1 (gp p),awayN t.b2 (gp p),t.goal⟩):=by unfold Hid T7.acc;rw[if_neg hm,if_pos hid]
 have HFG:=Hd (ga_forget_yes h.gg h.gH hp);have HH:=Hd h;have HM:=Hd hm;clear h hm hid HHA hp;generalize gp p=x at*;go_enter func219,ntmps219
 go_wp2_with(go_at_call 227;refine H.out.mono ?_;rintro e w'⟨rfl,rfl⟩)
 refine HFG.out.mono ?_;clear HFG H;rintro e w1⟨rfl,hg,f1⟩;obtain⟨n1,n2,n3,n4,n5,n6,n7,n8,n9,n10⟩:=HH.out.lb.ne;have hh1:=HH.out.hd.fr f1 n7;have d1:w1.cell? ⟨b,1,none⟩=some (.pointer (some ⟨A.rb,0,none⟩)):=hh1.cell (by omega);have d2:w1.cell? ⟨b,2,none⟩=some (.slice (some ⟨A.pb,0,none⟩) n n):=hh1.cell (by omega);have hpg:=HH.out.pg.fr f1 n8;have cp:w1.cell? ⟨A.pb,f,none⟩=some (.int .u32 (t.page f:Nat)):=hpg.cell hf;have fp:=hpg.frozen f;have lb:=hh1.lt;have lp:=hpg.lt;have fs:Fr (fun i=>i=A.pb) w1 (w1.setCell ⟨A.pb,f,none⟩ (.int .u32 x)):=(Fr.refl (fun i=>i=A.pb) w1).setCell (p:=⟨A.pb,f,none⟩) (.inl rfl) _;have HB:=Hd (back_yes ((HH.out.rr.fr f1 (fun i q e=>n10 i q e)).fr fs (fun i hi e=>n5 (e▸hi))) 1 f (by omega) hf);have HG:=Hd hg;have HF1:=Hd f1;generalize t.page f=z at cp;clear hg f1 hh1 hpg fs n2 n3 n4 n5 n6 n7 n8 n9 n10
 go_wp2_with fail
 refine HB.out.mono ?_;clear HB;rintro e w2⟨rfl,hR,f2⟩
 have key:AC w2 b n A ⟨t.nw,t.mn++[f],upd t.page f x,t.ev,awayN t.b1 x,awayN t.b2 x,t.goal⟩ (awayN k1 p) (awayN k2 p) (sp++[p]) gp∧Fr (FT A b) w w2:=by
  have hl:=HH.out.lists;rw[putL2_1 hl.2.2.2.1,awayN_not (fun q=>HM.out (.inl q)),awayN_not (fun q=>HM.out (.inr q))]at hR;refine HH.out.laid hf HG.out HF1.out (Nat.le_trans (away_le2 _ _ _) HH.out.hb) hR f2 ?_ (fun y hy=>hy.imp (fun q=>q) (fun q=>List.mem_append.2 (.inl q)));rw[<-List.append_assoc];exact cnt_snoc _ _ _ (by cases e:t.ev f with|false=>rfl|true=>exact(HM.out (HH.out.ou f e)).elim)
 have KEY:=Hd key;clear hR f2 key;go_wp2;go_returns;exact⟨rfl,⟨_,_,_,_,by rw[HE.out];exact KEY.out.1⟩,KEY.out.2⟩
theorem ar_access_new(h:AC w b n A t k1 k2 sp gp){f id:Nat}(hf:f<n)(hm:¬(f∈t.nw∨f∈t.mn))(hu:isU32 id)(hid:¬id∈t.b1++t.b2):
  Calls prog 219 #[.pointer (some ⟨b,0,none⟩),.int .i64 f,.int .u32 id] w fun e w'=>e=.returned (.tuple #[])∧(∃k1' k2' sp' gp',AC w' b n A (t.acc f id) k1' k2' sp' gp')∧Fr (FT A b) w w':=by
 have HHA:=ar_has h f;rw[show decide (f∈t.nw∨f∈t.mn)=false from by simpa using hm]at HHA;have H:=Hd HHA;have HE:Hid (t.acc f id=⟨t.nw++[f],t.mn,upd t.page f id,t.ev,t.b1,t.b2,t.goal⟩):=by unfold Hid T7.acc;rw[if_neg hm,if_neg hid]
 have HFG:=Hd (ga_forget_no h.gg h.gH hu hid);have hn:=h.hn;have HH:=Hd h;have HM:=Hd hm;obtain⟨n1,n2,n3,n4,n5,n6,n7,n8,n9,n10⟩:=HH.out.lb.ne;have c1:w.cell? ⟨b,1,none⟩=some (.pointer (some ⟨A.rb,0,none⟩)):=h.c 1 (by omega);have c2:w.cell? ⟨b,2,none⟩=some (.slice (some ⟨A.pb,0,none⟩) n n):=h.c 2 (by omega);have cp:=h.cp hf;have fp:=h.pg.frozen f;have lb:=h.hd.lt;have lp:=h.pg.lt;have fs:Fr (fun i=>i=A.pb) w (w.setCell ⟨A.pb,f,none⟩ (.int .u32 id)):=(Fr.refl (fun i=>i=A.pb) w).setCell (p:=⟨A.pb,f,none⟩) (.inl rfl) _;have HB:=Hd (back_yes (h.rr.fr fs (fun i hi e=>n5 (e▸hi))) 0 f (by omega) hf);generalize t.page f=z at cp;clear h hm hid hu fs n2 n3 n4 n5 n6 n7 n8 n9 n10 HHA;go_enter func219,ntmps219
 go_wp2_with(first
  |(go_at_call 227;refine H.out.mono ?_;rintro e w'⟨rfl,rfl⟩)
  |(go_at_call 228;refine HFG.out.mono ?_;rintro e w'⟨rfl,rfl⟩))
 refine HB.out.mono ?_;clear HB HFG H;rintro e w2⟨rfl,hR,f2⟩
 have key:AC w2 b n A ⟨t.nw++[f],t.mn,upd t.page f id,t.ev,t.b1,t.b2,t.goal⟩ k1 k2 sp gp∧Fr (FT A b) w w2:=by
  have hl:=HH.out.lists;rw[putL2_0 hl.2.2.2.1,awayN_not (fun q=>HM.out (.inl q)),awayN_not (fun q=>HM.out (.inr q))]at hR;refine HH.out.laid hf HH.out.gg (Fr.refl _ _) HH.out.hb hR f2 ?_ (fun y hy=>hy.imp (fun q=>List.mem_append.2 (.inl q)) (fun q=>q));have e0:t.ev f=false:=by cases e:t.ev f with|false=>rfl|true=>exact(HM.out (HH.out.ou f e)).elim
  rw[cnt_append (t.nw++[f]),cnt_snoc _ _ _ e0,<-cnt_append]
 have KEY:=Hd key;clear hR f2 key;go_wp2;go_returns;exact⟨rfl,⟨_,_,_,_,by rw[HE.out];exact KEY.out.1⟩,KEY.out.2⟩
theorem ar_access(h:AC w b n A t k1 k2 sp gp){f id:Nat}(hf:f<n)(hu:isU32 id):
  Calls prog 219 #[.pointer (some ⟨b,0,none⟩),.int .i64 f,.int .u32 id] w fun e w'=>e=.returned (.tuple #[])∧(∃k1' k2' sp' gp',AC w' b n A (t.acc f id) k1' k2' sp' gp')∧Fr (FT A b) w w':=by
 by_cases hm:f∈t.nw∨f∈t.mn
 .exact ar_access_in h hf hm
 .by_cases hid:id∈t.b1++t.b2
  .exact ar_access_old h hf hm hid
  .exact ar_access_new h hf hm hu hid
theorem ar_eldest(h:AC w b n A t k1 k2 sp gp)(k:Int){l:List Nat}(hl:rowZ [t.nw,t.mn] k=l):
  Calls prog 236 #[.pointer (some ⟨b,0,none⟩),.int .i64 k] w fun e w'=>e=.returned (.int .i64 (ixI (l.find? t.ev)))∧∃d,w.drewN d=w':=by
 obtain⟨j,hj,hfj,hbj,hej⟩:=find_ix l t.ev;have hln:=(rowZ_facts h.rr k).1;rw[hl]at hln;have hn:=h.hn
 have hln2:∀x∈l,x<n:=by
  intro x hx;have hL:=h.lists;rw[<-hl]at hx;unfold rowZ at hx
  split at hx
  .rename_i hk
   obtain⟨kk,rfl⟩:=Int.eq_ofNat_of_zero_le hk;rw[show((kk:Nat):Int).toNat=kk from by omega]at hx
   match kk,hx with
   |0,hx=>exact hL.2.1 x hx
   |1,hx=>exact hL.2.2.1 x hx
   |kk+2,hx=>simp at hx
  .cases hx
 have HFI:=First_all h.rr k;rw[hl,List.head?_eq_getElem?]at HFI;have HF1:=Hd HFI
 have HNX:Hid (∀(i x:Nat) (d:Nat),l[i]?=some x->Calls prog 174 #[.pointer (some ⟨A.rb,0,none⟩),.int .i64 x] (w.drewN d) fun e w'=>e=.returned (.int .i64 (ixI l[i+1]?))∧w.drewN d=w'):=by
  intro i x d hi;have hR:=h.rr.fr ((Fr.refl NoF w).drewN d) (fun _ _ q=>q);have:=(rowZ_facts hR k).2 i x (by rw[hl];exact hi);rw[hl]at this;rw[<-this];exact Next_all hR x
 have c1:w.cell? ⟨b,1,none⟩=some (.pointer (some ⟨A.rb,0,none⟩)):=h.c 1 (by omega);have c3:w.cell? ⟨b,3,none⟩=some (.slice (some ⟨A.eb,0,none⟩) n n):=h.c 3 (by omega)
 have HCE:Hid (∀(i x:Nat),l[i]?=some x->x<n∧w.cell? ⟨A.eb,x,none⟩=some (.bool (t.ev x))):=fun i x hx=>by
  have hxn:=hln2 x (List.mem_of_getElem? hx);exact⟨hxn,h.ce hxn⟩
 have HB:=Hd hbj;have HE:=Hd hej;have HFJ:=Hd hfj;clear h HFI hbj hej hfj hl hln2;go_enter func236,ntmps236
 go_wp2_with(go_at_call 173;refine HF1.out.mono ?_;rintro e w'⟨rfl,d,rfl⟩)
 clear HF1
 go_loopg [5] j (fun g i wr=>∃k:Nat,k<=j∧g=j-k∧i=.int .i64 (ixI l[k]?)∧∃d,w.drewN d=wr)
 case atStart=>exact⟨0,Nat.zero_le _,by omega,rfl,d,rfl⟩
 case round=>
  obtain⟨k,hk,rfl,rfl,d,rfl⟩:=hrel;by_cases hkj:k<j
  .have hkl:k<l.length:=by omega
   obtain⟨hxn,hce⟩:=HCE.out k l[k] (List.getElem?_eq_getElem hkl);rw[HB.out k l[k] hkj (List.getElem?_eq_getElem hkl)]at hce;have HN:=Hd (HNX.out k l[k] d (List.getElem?_eq_getElem hkl));rw[show ixI l[k]?=(l[k]:Nat)from by simp[ixI,hkl]];generalize l[k]=x at*
   go_wp2_with(go_at_call 174;refine HN.out.mono ?_;rintro e w'⟨rfl,rfl⟩)
   go_roundg (j-(k+1))
   case measure=>omega
   case rel=>exact⟨k+1,by omega,rfl,rfl,d,rfl⟩
  .obtain rfl:k=j:=by omega
   cases e:l[k]? with
   |none=>
    have HR:Hid (l.find? t.ev=none):=HFJ.out.trans e;rw[show ixI (none:Option Nat)= -1 from rfl];clear e;go_wp2;go_returns;exact⟨by rw[HR.out];rfl,_,rfl⟩
   |some x=>
    obtain⟨hxn,hce⟩:=HCE.out k x e;rw[HE.out x e]at hce;have HR:Hid (l.find? t.ev=some x):=HFJ.out.trans e;rw[show ixI (some x)=(x:Int)from rfl];clear e;go_wp2;go_returns;exact⟨by rw[HR.out];rfl,_,rfl⟩
end
def stp(a b:Nat):Nat:=max 1 (b/a)
def T7.miss(n:Nat)(t:T7)(id:Nat):T7:=
 if id∈t.b1 then⟨t.nw,t.mn,t.page,t.ev,t.b1,t.b2,min (t.goal+stp t.b1.length t.b2.length) n⟩
 else if id∈t.b2 then⟨t.nw,t.mn,t.page,t.ev,t.b1,t.b2,t.goal-stp t.b2.length t.b1.length⟩
 else if n<=t.nw.length+t.b1.length then⟨t.nw,t.mn,t.page,t.ev,t.b1.drop 1,t.b2,t.goal⟩
 else if 2*n<=t.nw.length+t.b1.length+(t.mn.length+t.b2.length)then⟨t.nw,t.mn,t.page,t.ev,t.b1,t.b2.drop 1,t.goal⟩else t
theorem stp_lt{a b:Nat}(hb:b<=65535):1<=stp a b∧stp a b<=65535:=by
 unfold stp;have:=Nat.div_le_self b a;omega
theorem qa{P:Program}{f:FuncId}{args:Array Value}{w:World}{a n:Nat}{v:Value}
  (h:Calls P f args (w.drewN (a+n)) fun e w'=>e=.returned v∧w.drewN (a+n)=w'):Calls P f args (w.drewN (a+n)) fun e w''=>e=.returned v∧∃m,w''=w.drewN (a+m):=
 h.mono fun _ _ ⟨he,hm⟩=>⟨he,n,hm.symm⟩
section
variable{w w':World}{b n:Nat}{A:TA}{t:T7}{k1 k2 sp:List Nat}{gp:Nat->Nat}
theorem AC.remd(h:AC w b n A t k1 k2 sp gp){b1 b2:List Nat}(hb:b1.length+b2.length<=n)(hr:RemA w A.gr A.gpb A.mb (n+1) b1 b2 A.FG w'):∃k1' k2' sp' gp',AC w' b n A ⟨t.nw,t.mn,t.page,t.ev,b1,b2,t.goal⟩ k1' k2' sp' gp'∧Fr (FT A b) w w':=by
 obtain⟨j1,j2,js,jp,hg,hf⟩:=hr;obtain⟨n1,n2,n3,n4,n5,n6,n7,n8,n9,n10⟩:=h.lb.ne;exact⟨j1,j2,js,jp,⟨h.hd.fr hf n7,h.rr.fr hf n10,h.pg.fr hf n8,h.be.fr hf n9,hg,h.lb,h.ou,h.hn,h.hi,hb⟩,hf.mono (fun i q=>.inr (.inr (.inr (.inr q))))⟩
theorem AC.setGoal(h:AC w b n A t k1 k2 sp gp)(g:Nat)(hg:g<=n):AC (w.setCell ⟨b,0,none⟩ (.int .i64 g)) b n A ⟨t.nw,t.mn,t.page,t.ev,t.b1,t.b2,g⟩ k1 k2 sp gp∧Fr (FT A b) w (w.setCell ⟨b,0,none⟩ (.int .i64 g)):=by
 obtain⟨n1,n2,n3,n4,n5,n6,n7,n8,n9,n10⟩:=h.lb.ne;have f:Fr (fun i=>i=b) w (w.setCell ⟨b,0,none⟩ (.int .i64 g)):=(Fr.refl (fun i=>i=b) w).setCell (p:=⟨b,0,none⟩) (.inl rfl) _;refine⟨⟨?_,h.rr.fr f (fun i hi e=>n4 (e▸hi)),h.pg.fr f (fun e=>n1 e.symm),h.be.fr f (fun e=>n2 e.symm),h.gg.fr f (fun i hi e=>n7 (.inl (e▸hi))) (fun e=>n7 (.inr (.inl e.symm))) (fun e=>n7 (.inr (.inr e.symm))),h.lb,h.ou,h.hn,hg,h.hb⟩,f.mono (fun i q=>.inl q)⟩
 show Blk _ b 8 (twH A n g (n+1) (cntL (t.nw++t.mn) t.ev))
 rw[<-twH_goal A n t.goal];exact h.hd.set _ _
theorem ar_step0(h:AC w b n A t k1 k2 sp gp)(h1:1<=t.b1.length):Calls prog 230 #[.pointer (some ⟨b,0,none⟩),.int .i64 0,.int .i64 1] w fun e w'=>e=.returned (.int .i64 (stp t.b1.length t.b2.length:Nat))∧∃d,w.drewN d=w':=by
 have hn:=h.hn;have hb:=h.hb;have H0:Hid (∀w',Fr NoF w w'->Calls prog 234 #[.pointer (some ⟨b,5,none⟩),.int .i64 0] w' fun e w''=>e=.returned (.int .i64 (t.b1.length:Nat))∧w'=w''):=fun w' f=>ga_len0 (h.fr0 f).gg (h.fr0 f).gH
 have H1:Hid (∀w',Fr NoF w w'->Calls prog 234 #[.pointer (some ⟨b,5,none⟩),.int .i64 1] w' fun e w''=>e=.returned (.int .i64 (t.b2.length:Nat))∧w'=w''):=fun w' f=>ga_len1 (h.fr0 f).gg (h.fr0 f).gH
 clear h;generalize t.b1.length=x1 at*;generalize t.b2.length=x2 at*;have HS:Hid (stp x1 x2=max 1 (x2/x1)):=rfl;have hle:=Nat.div_le_self x2 x1
 have hdv:wrap64 ((x2:Int)/(x1:Int))=((x2/x1:Nat):Int):=by
  rw[<-Int.natCast_ediv];generalize x2/x1=q at hle;exact IntWalk.wrap64_in _ (by omega)
 generalize x2/x1=q at*;rw[HS.out];clear HS;by_cases hq:1<q
 .rw[show max 1 q=q from by omega]
  have hq':1<(q:Int):=by omega
  clear hq;go_enter func230,ntmps230;go_wp2
  go_region_with (first
   |(go_at_call 234;(with_reducible refine(H0.out _ (Fr.refl NoF _).drew).mono ?_);rintro e w'⟨rfl,rfl⟩)
   |(go_at_call 234;(with_reducible refine(H1.out _ (Fr.refl NoF _).drew).mono ?_);rintro e w'⟨rfl,rfl⟩))
  all_goals
   go_wp2;go_returns;exact⟨rfl,1,rfl⟩
 .rw[show max 1 q=1 from by omega]
  have hq':(q:Int)<=1:=by omega
  clear hq;go_enter func230,ntmps230;go_wp2
  go_region_with (first
   |(go_at_call 234;(with_reducible refine(H0.out _ (Fr.refl NoF _).drew).mono ?_);rintro e w'⟨rfl,rfl⟩)
   |(go_at_call 234;(with_reducible refine(H1.out _ (Fr.refl NoF _).drew).mono ?_);rintro e w'⟨rfl,rfl⟩))
  all_goals
   go_wp2;go_returns;exact⟨rfl,1,rfl⟩
theorem ar_step1(h:AC w b n A t k1 k2 sp gp)(h1:1<=t.b2.length):Calls prog 230 #[.pointer (some ⟨b,0,none⟩),.int .i64 1,.int .i64 0] w fun e w'=>e=.returned (.int .i64 (stp t.b2.length t.b1.length:Nat))∧∃d,w.drewN d=w':=by
 have hn:=h.hn;have hb:=h.hb;have H0:Hid (∀w',Fr NoF w w'->Calls prog 234 #[.pointer (some ⟨b,5,none⟩),.int .i64 0] w' fun e w''=>e=.returned (.int .i64 (t.b1.length:Nat))∧w'=w''):=fun w' f=>ga_len0 (h.fr0 f).gg (h.fr0 f).gH
 have H1:Hid (∀w',Fr NoF w w'->Calls prog 234 #[.pointer (some ⟨b,5,none⟩),.int .i64 1] w' fun e w''=>e=.returned (.int .i64 (t.b2.length:Nat))∧w'=w''):=fun w' f=>ga_len1 (h.fr0 f).gg (h.fr0 f).gH
 clear h;generalize t.b1.length=x2 at*;generalize t.b2.length=x1 at*;have HS:Hid (stp x1 x2=max 1 (x2/x1)):=rfl;have hle:=Nat.div_le_self x2 x1
 have hdv:wrap64 ((x2:Int)/(x1:Int))=((x2/x1:Nat):Int):=by
  rw[<-Int.natCast_ediv];generalize x2/x1=q at hle;exact IntWalk.wrap64_in _ (by omega)
 generalize x2/x1=q at*;rw[HS.out];clear HS;by_cases hq:1<q
 .rw[show max 1 q=q from by omega]
  have hq':1<(q:Int):=by omega
  clear hq;go_enter func230,ntmps230;go_wp2
  go_region_with (first
   |(go_at_call 234;(with_reducible refine(H0.out _ (Fr.refl NoF _).drew).mono ?_);rintro e w'⟨rfl,rfl⟩)
   |(go_at_call 234;(with_reducible refine(H1.out _ (Fr.refl NoF _).drew).mono ?_);rintro e w'⟨rfl,rfl⟩))
  all_goals
   go_wp2;go_returns;exact⟨rfl,1,rfl⟩
 .rw[show max 1 q=1 from by omega]
  have hq':(q:Int)<=1:=by omega
  clear hq;go_enter func230,ntmps230;go_wp2
  go_region_with (first
   |(go_at_call 234;(with_reducible refine(H0.out _ (Fr.refl NoF _).drew).mono ?_);rintro e w'⟨rfl,rfl⟩)
   |(go_at_call 234;(with_reducible refine(H1.out _ (Fr.refl NoF _).drew).mono ?_);rintro e w'⟨rfl,rfl⟩))
  all_goals
   go_wp2;go_returns;exact⟨rfl,1,rfl⟩
def T7.thin(n:Nat)(t:T7):T7:=if n<=t.nw.length+t.b1.length then⟨t.nw,t.mn,t.page,t.ev,t.b1.drop 1,t.b2,t.goal⟩
 else if 2*n<=t.nw.length+t.b1.length+(t.mn.length+t.b2.length)then⟨t.nw,t.mn,t.page,t.ev,t.b1,t.b2.drop 1,t.goal⟩else t
def ResA(w:World)(b n:Nat)(A:TA)(t:T7)(w':World):Prop:=(∃k1 k2 sp gp,AC w' b n A t k1 k2 sp gp)∧Fr (FT A b) w w'
theorem ResA.trans0{w'':World}(f:Fr NoF w w')(h:ResA w' b n A t w''):ResA w b n A t w'':=⟨h.1,(f.mono (fun _ q=>q.elim)).trans h.2 (fun _ q=>.inl q)⟩
theorem AC.res(h:AC w b n A t k1 k2 sp gp){b1 b2:List Nat}(hb:b1.length+b2.length<=n)(hr:RemA w A.gr A.gpb A.mb (n+1) b1 b2 A.FG w'):ResA w b n A ⟨t.nw,t.mn,t.page,t.ev,b1,b2,t.goal⟩ w':=by
 obtain⟨k1',k2',sp',gp',q1,q2⟩:=h.remd hb hr;exact⟨⟨_,_,_,_,q1⟩,q2⟩
theorem ar_thin(h:AC w b n A t k1 k2 sp gp):Calls prog 226 #[.pointer (some ⟨b,0,none⟩)] w fun e w'=>e=.returned (.tuple #[])∧ResA w b n A (t.thin n) w':=by
 have hn:=h.hn;have hb:=h.hb;have hln:=h.lists.2.2.2.2;rw[List.length_append]at hln;have c1:w.cell? ⟨b,1,none⟩=some (.pointer (some ⟨A.rb,0,none⟩)):=h.c 1 (by omega);have c2:w.cell? ⟨b,2,none⟩=some (.slice (some ⟨A.pb,0,none⟩) n n):=h.c 2 (by omega);have lb:=h.hd.lt;have H0:Hid (∀d,Calls prog 234 #[.pointer (some ⟨b,5,none⟩),.int .i64 0] (w.drewN d) fun e w'=>e=.returned (.int .i64 (t.b1.length:Nat))∧w.drewN d=w'):=fun d=>ga_len0 (h.fr0 ((Fr.refl NoF w).drewN d)).gg (h.fr0 ((Fr.refl NoF w).drewN d)).gH
 have H1:Hid (∀d,Calls prog 234 #[.pointer (some ⟨b,5,none⟩),.int .i64 1] (w.drewN d) fun e w'=>e=.returned (.int .i64 (t.b2.length:Nat))∧w.drewN d=w'):=fun d=>ga_len1 (h.fr0 ((Fr.refl NoF w).drewN d)).gg (h.fr0 ((Fr.refl NoF w).drewN d)).gH
 have L0:Hid (∀d,Calls prog 216 #[.pointer (some ⟨A.rb,0,none⟩),.int .i64 0] (w.drewN d) fun e w'=>e=.returned (.int .i64 (t.nw.length:Nat))∧w.drewN d=w'):=fun d=>Len_all (h.rr.fr ((Fr.refl NoF w).drewN d) (fun _ _ q=>q)) 0
 have L1:Hid (∀d,Calls prog 216 #[.pointer (some ⟨A.rb,0,none⟩),.int .i64 1] (w.drewN d) fun e w'=>e=.returned (.int .i64 (t.mn.length:Nat))∧w.drewN d=w'):=fun d=>Len_all (h.rr.fr ((Fr.refl NoF w).drewN d) (fun _ _ q=>q)) 1
 have E0:Hid (∀d,Calls prog 235 #[.pointer (some ⟨b,5,none⟩),.int .i64 0] (w.drewN d) fun e w'=>e=.returned (.tuple #[])∧ResA w b n A ⟨t.nw,t.mn,t.page,t.ev,t.b1.drop 1,t.b2,t.goal⟩ w'):=by
  intro d;have f:Fr NoF w (w.drewN d):=(Fr.refl NoF w).drewN d;have h':=h.fr0 f;exact(ga_eldest h'.gg h'.gH).1.mono fun e w' ⟨he,hr⟩=>⟨he,(h'.res (by rw[List.length_drop];omega) hr).trans0 f⟩
 have E1:Hid (∀d,Calls prog 235 #[.pointer (some ⟨b,5,none⟩),.int .i64 1] (w.drewN d) fun e w'=>e=.returned (.tuple #[])∧ResA w b n A ⟨t.nw,t.mn,t.page,t.ev,t.b1,t.b2.drop 1,t.goal⟩ w'):=by
  intro d;have f:Fr NoF w (w.drewN d):=(Fr.refl NoF w).drewN d;have h':=h.fr0 f;exact(ga_eldest h'.gg h'.gH).2.mono fun e w' ⟨he,hr⟩=>⟨he,(h'.res (by rw[List.length_drop];omega) hr).trans0 f⟩
 have E2:Hid (∀d,ResA w b n A t (w.drewN d)):=fun d=>⟨⟨_,_,_,_,h.fr0 ((Fr.refl NoF w).drewN d)⟩,(Fr.refl (FT A b) w).drewN d⟩
 have HT:Hid (t.thin n=if n<=t.nw.length+t.b1.length then⟨t.nw,t.mn,t.page,t.ev,t.b1.drop 1,t.b2,t.goal⟩
  else if 2*n<=t.nw.length+t.b1.length+(t.mn.length+t.b2.length)then⟨t.nw,t.mn,t.page,t.ev,t.b1,t.b2.drop 1,t.goal⟩else t):=rfl
 clear h;rw[HT.out];clear HT;generalize t.nw.length=a1 at*;generalize t.mn.length=a2 at*;generalize t.b1.length=x1 at*;generalize t.b2.length=x2 at*;have g1:IntKind.i64.wrap ((a1:Int)+(x1:Int))=(a1:Int)+x1:=IntWalk.i64_in _ (by omega);have g2:IntKind.i64.wrap ((a2:Int)+(x2:Int))=(a2:Int)+x2:=IntWalk.i64_in _ (by omega);by_cases hA:n<=a1+x1
 .rw[if_pos hA]
  have hA':(n:Int)<=(a1:Int)+x1:=by omega
  clear hA;go_enter func226,ntmps226;go_wp2
  go_quiet ((first|(go_at_call 216;with_reducible exact qs (L0.out _))|(go_at_call 234;with_reducible exact qs (H0.out _))))
  go_wp2
  go_quiet ((first|(go_at_call 216;with_reducible exact qa (L1.out _))|(go_at_call 234;with_reducible exact qa (H1.out _))))
  go_wp2_with fail
  refine(E0.out _).mono ?_;rintro e w2⟨rfl,h2⟩;have K:=Hd h2;clear h2;go_wp2;go_returns;exact⟨rfl,K.out⟩
 .rw[if_neg hA]
  have hA':(a1:Int)+x1<(n:Int):=by omega
  by_cases hB:2*n<=a1+x1+(a2+x2)
  .rw[if_pos hB]
   have hB':2*(n:Int)<=(a1:Int)+x1+((a2:Int)+x2):=by omega
   clear hA hB;go_enter func226,ntmps226;go_wp2
   go_quiet ((first|(go_at_call 216;with_reducible exact qs (L0.out _))|(go_at_call 234;with_reducible exact qs (H0.out _))))
   go_wp2
   go_quiet ((first|(go_at_call 216;with_reducible exact qa (L1.out _))|(go_at_call 234;with_reducible exact qa (H1.out _))))
   go_wp2_with fail
   refine(E1.out _).mono ?_;rintro e w2⟨rfl,h2⟩;have K:=Hd h2;clear h2;go_wp2;go_returns;exact⟨rfl,K.out⟩
  .rw[if_neg hB]
   have hB':(a1:Int)+x1+((a2:Int)+x2)<2*(n:Int):=by omega
   clear hA hB;go_enter func226,ntmps226;go_wp2
   go_quiet ((first|(go_at_call 216;with_reducible exact qs (L0.out _))|(go_at_call 234;with_reducible exact qs (H0.out _))))
   go_wp2
   go_quiet ((first|(go_at_call 216;with_reducible exact qa (L1.out _))|(go_at_call 234;with_reducible exact qa (H1.out _))))
   go_wp2;go_returns;exact⟨rfl,E2.out _⟩
end
end
end Go.Proofs.YtoenclhimbpfeaaGreatDoor
