/- Part 26. -/
import Derived.Test.YtoenclhimbpfeaaGreatDoorC25
namespace Go.Proofs.YtoenclhimbpfeaaGreatDoor
set_option linter.all false
set_option maxHeartbeats 16000000
set_option maxRecDepth 100000
section
open Go.Maps Go.Proofs.Tryz Go.RowKit
section
variable{w w':World}{b n:Nat}{A:TA}{t:T7}{k1 k2 sp:List Nat}{gp:Nat->Nat}
theorem ar_miss0(h:AC w b n A t k1 k2 sp gp){id:Nat}(hu:isU32 id)(hm:id∈t.b1):Calls prog 221 #[.pointer (some ⟨b,0,none⟩),.int .u32 id] w fun e w'=>e=.returned (.tuple #[])∧ResA w b n A (t.miss n id) w':=by
 have hn:=h.hn;have hb:=h.hb;have hgl:=h.hi;have c0:w.cell? ⟨b,0,none⟩=some (.int .i64 (t.goal:Nat)):=h.c 0 (by omega);have c2:w.cell? ⟨b,2,none⟩=some (.slice (some ⟨A.pb,0,none⟩) n n):=h.c 2 (by omega);have f0:w.frozen? ⟨b,0,none⟩=false:=h.hd.frozen 0;have lb:=h.hd.lt;have HSD:=ga_side h.gg h.gH hu;rw[show sideN t.b1 t.b2 id=0 from if_pos hm]at HSD
 replace HSD:=Hd HSD
 have h1:1<=t.b1.length:=by
  cases e:t.b1 with
  |nil=>rw[e]at hm;cases hm
  |cons x l=>simp
 have HS:Hid (∀w',Fr NoF w w'->Calls prog 230 #[.pointer (some ⟨b,0,none⟩),.int .i64 0,.int .i64 1] w' fun e w''=>e=.returned (.int .i64 (stp t.b1.length t.b2.length:Nat))∧∃d,w'.drewN d=w''):=fun w' f=>ar_step0 (h.fr0 f) h1
 have HM:Hid (t.miss n id=⟨t.nw,t.mn,t.page,t.ev,t.b1,t.b2,min (t.goal+stp t.b1.length t.b2.length) n⟩):=by unfold Hid T7.miss;rw[if_pos hm]
 have KEY:Hid (∀w',Fr NoF w w'->ResA w b n A ⟨t.nw,t.mn,t.page,t.ev,t.b1,t.b2,min (t.goal+stp t.b1.length t.b2.length) n⟩ (w'.setCell ⟨b,0,none⟩ (.int .i64 (min (t.goal+stp t.b1.length t.b2.length) n:Nat)))):=by
  intro w' f;obtain⟨q1,q2⟩:=(h.fr0 f).setGoal (min (t.goal+stp t.b1.length t.b2.length) n) (Nat.min_le_right _ _);exact ResA.trans0 f ⟨⟨_,_,_,_,q1⟩,q2⟩
 have hst:=stp_lt (a:=t.b1.length) (b:=t.b2.length) (by omega);rw[HM.out];clear h hm HM;generalize stp t.b1.length t.b2.length=q at*;generalize t.goal=g at*;have hq:g+q<=n∨¬(g+q<=n):=Decidable.em _;rcases hq with hq|hq
 .rw[show min (g+q) n=g+q from by omega]at KEY⊢
  have hc:(g:Int)+q<=n:=by omega
  have hcast:Hid (((g+q:Nat):Int)=(g:Int)+q):=by unfold Hid;omega
  have hsum:0<=(q:Int)∧(q:Int)<=65535∧(g:Int)<=65535:=by omega
  obtain⟨hs1,hs2,hs3⟩:=hsum;clear hq
  have KEY2:Hid (∀w',Fr NoF w w'->ResA w b n A ⟨t.nw,t.mn,t.page,t.ev,t.b1,t.b2,(g+q)⟩ (w'.setCell ⟨b,0,none⟩ (.int .i64 ((g:Int)+q)))):=by
   intro w' f;have:=KEY.out w' f;rw[hcast.out]at this;exact this
  clear hcast KEY;go_enter func221,ntmps221
  go_wp2_with(go_at_call 229;refine HSD.out.mono ?_;rintro e w'⟨rfl,rfl⟩)
  have gw:IntKind.i64.wrap ((g:Int)+(q:Int))=(g:Int)+(q:Int):=IntWalk.i64_in _ (by omega)
  go_region_with (go_at_call 230;(first|(with_reducible refine(HS.out _ (Fr.refl NoF _)).mono ?_)|(with_reducible refine(HS.out _ (Fr.refl NoF _).drew).mono ?_));rintro e w'⟨rfl,d,rfl⟩)
  all_goals
   go_wp2;go_returns;refine⟨rfl,KEY2.out _ ?_⟩
   repeat(first|exact Fr.refl NoF _|apply Fr.drew|apply Fr.drewN)
 .rw[show min (g+q) n=n from by omega]at KEY⊢
  have hc:(n:Int)<(g:Int)+q:=by omega
  have hcast:Hid (((n:Nat):Int)=(n:Int)):=by unfold Hid;omega
  have hsum:0<=(q:Int)∧(q:Int)<=65535∧(g:Int)<=65535:=by omega
  obtain⟨hs1,hs2,hs3⟩:=hsum;clear hq
  have KEY2:Hid (∀w',Fr NoF w w'->ResA w b n A ⟨t.nw,t.mn,t.page,t.ev,t.b1,t.b2,n⟩ (w'.setCell ⟨b,0,none⟩ (.int .i64 ((n:Int))))):=by
   intro w' f;have:=KEY.out w' f;rw[hcast.out]at this;exact this
  clear hcast KEY;go_enter func221,ntmps221
  go_wp2_with(go_at_call 229;refine HSD.out.mono ?_;rintro e w'⟨rfl,rfl⟩)
  have gw:IntKind.i64.wrap ((g:Int)+(q:Int))=(g:Int)+(q:Int):=IntWalk.i64_in _ (by omega)
  go_region_with (go_at_call 230;(first|(with_reducible refine(HS.out _ (Fr.refl NoF _)).mono ?_)|(with_reducible refine(HS.out _ (Fr.refl NoF _).drew).mono ?_));rintro e w'⟨rfl,d,rfl⟩)
  all_goals
   go_wp2;go_returns;refine⟨rfl,KEY2.out _ ?_⟩
   repeat(first|exact Fr.refl NoF _|apply Fr.drew|apply Fr.drewN)
theorem ar_miss1(h:AC w b n A t k1 k2 sp gp){id:Nat}(hu:isU32 id)(hm0:¬id∈t.b1)(hm:id∈t.b2):Calls prog 221 #[.pointer (some ⟨b,0,none⟩),.int .u32 id] w fun e w'=>e=.returned (.tuple #[])∧ResA w b n A (t.miss n id) w':=by
 have hn:=h.hn;have hb:=h.hb;have hgl:=h.hi;have c0:w.cell? ⟨b,0,none⟩=some (.int .i64 (t.goal:Nat)):=h.c 0 (by omega);have c2:w.cell? ⟨b,2,none⟩=some (.slice (some ⟨A.pb,0,none⟩) n n):=h.c 2 (by omega);have f0:w.frozen? ⟨b,0,none⟩=false:=h.hd.frozen 0;have lb:=h.hd.lt;have HSD:=ga_side h.gg h.gH hu;rw[show sideN t.b1 t.b2 id=1 from(by unfold sideN;rw[if_neg hm0,if_pos hm])]at HSD
 replace HSD:=Hd HSD
 have h1:1<=t.b2.length:=by
  cases e:t.b2 with
  |nil=>rw[e]at hm;cases hm
  |cons x l=>simp
 have HS:Hid (∀w',Fr NoF w w'->Calls prog 230 #[.pointer (some ⟨b,0,none⟩),.int .i64 1,.int .i64 0] w' fun e w''=>e=.returned (.int .i64 (stp t.b2.length t.b1.length:Nat))∧∃d,w'.drewN d=w''):=fun w' f=>ar_step1 (h.fr0 f) h1
 have HM:Hid (t.miss n id=⟨t.nw,t.mn,t.page,t.ev,t.b1,t.b2,t.goal-stp t.b2.length t.b1.length⟩):=by unfold Hid T7.miss;rw[if_neg hm0,if_pos hm]
 have KEY:Hid (∀w',Fr NoF w w'->ResA w b n A ⟨t.nw,t.mn,t.page,t.ev,t.b1,t.b2,t.goal-stp t.b2.length t.b1.length⟩ (w'.setCell ⟨b,0,none⟩ (.int .i64 (t.goal-stp t.b2.length t.b1.length:Nat)))):=by
  intro w' f;obtain⟨q1,q2⟩:=(h.fr0 f).setGoal (t.goal-stp t.b2.length t.b1.length) (Nat.le_trans (Nat.sub_le _ _) hgl);exact ResA.trans0 f ⟨⟨_,_,_,_,q1⟩,q2⟩
 have hst:=stp_lt (a:=t.b2.length) (b:=t.b1.length) (by omega);rw[HM.out];clear h hm HM hm0;generalize stp t.b2.length t.b1.length=q at*;generalize t.goal=g at*;have hq:q<=g∨¬(q<=g):=Decidable.em _;rcases hq with hq|hq
 .have hc:0<=(g:Int)-q:=by omega
  have hcast:Hid (((g-q:Nat):Int)=(g:Int)-q):=by unfold Hid;omega
  have hsum:0<=(q:Int)∧(q:Int)<=65535∧(g:Int)<=65535:=by omega
  obtain⟨hs1,hs2,hs3⟩:=hsum;clear hq
  have KEY2:Hid (∀w',Fr NoF w w'->ResA w b n A ⟨t.nw,t.mn,t.page,t.ev,t.b1,t.b2,(g-q)⟩ (w'.setCell ⟨b,0,none⟩ (.int .i64 ((g:Int)-q)))):=by
   intro w' f;have:=KEY.out w' f;rw[hcast.out]at this;exact this
  clear hcast KEY;go_enter func221,ntmps221
  go_wp2_with(go_at_call 229;refine HSD.out.mono ?_;rintro e w'⟨rfl,rfl⟩)
  have gw:IntKind.i64.wrap ((g:Int)-(q:Int))=(g:Int)-(q:Int):=IntWalk.i64_in _ (by omega)
  go_region_with (go_at_call 230;(first|(with_reducible refine(HS.out _ (Fr.refl NoF _)).mono ?_)|(with_reducible refine(HS.out _ (Fr.refl NoF _).drew).mono ?_));rintro e w'⟨rfl,d,rfl⟩)
  all_goals
   go_wp2;go_returns;refine⟨rfl,KEY2.out _ ?_⟩
   repeat(first|exact Fr.refl NoF _|apply Fr.drew|apply Fr.drewN)
 .rw[show g-q=0 from by omega]at KEY⊢
  have hc:(g:Int)-q<0:=by omega
  have hcast:Hid (((0:Nat):Int)=(0:Int)):=by unfold Hid;omega
  have hsum:0<=(q:Int)∧(q:Int)<=65535∧(g:Int)<=65535:=by omega
  obtain⟨hs1,hs2,hs3⟩:=hsum;clear hq
  have KEY2:Hid (∀w',Fr NoF w w'->ResA w b n A ⟨t.nw,t.mn,t.page,t.ev,t.b1,t.b2,0⟩ (w'.setCell ⟨b,0,none⟩ (.int .i64 ((0:Int))))):=by
   intro w' f;have:=KEY.out w' f;rw[hcast.out]at this;exact this
  clear hcast KEY;go_enter func221,ntmps221
  go_wp2_with(go_at_call 229;refine HSD.out.mono ?_;rintro e w'⟨rfl,rfl⟩)
  have gw:IntKind.i64.wrap ((g:Int)-(q:Int))=(g:Int)-(q:Int):=IntWalk.i64_in _ (by omega)
  go_region_with (go_at_call 230;(first|(with_reducible refine(HS.out _ (Fr.refl NoF _)).mono ?_)|(with_reducible refine(HS.out _ (Fr.refl NoF _).drew).mono ?_));rintro e w'⟨rfl,d,rfl⟩)
  all_goals
   go_wp2;go_returns;refine⟨rfl,KEY2.out _ ?_⟩
   repeat(first|exact Fr.refl NoF _|apply Fr.drew|apply Fr.drewN)
theorem ar_miss_none(h:AC w b n A t k1 k2 sp gp){id:Nat}(hu:isU32 id)(hm0:¬id∈t.b1)(hm:¬id∈t.b2):Calls prog 221 #[.pointer (some ⟨b,0,none⟩),.int .u32 id] w fun e w'=>e=.returned (.tuple #[])∧ResA w b n A (t.miss n id) w':=by
 have HSD:=ga_side h.gg h.gH hu;rw[show sideN t.b1 t.b2 id= -1 from(by unfold sideN;rw[if_neg hm0,if_neg hm])]at HSD
 replace HSD:=Hd HSD
 have HT:=Hd (ar_thin h);have HM:Hid (t.miss n id=t.thin n):=by unfold Hid T7.miss T7.thin;rw[if_neg hm0,if_neg hm]
 rw[HM.out];clear h hm HM hm0;go_enter func221,ntmps221
 go_wp2_with(go_at_call 229;refine HSD.out.mono ?_;rintro e w'⟨rfl,rfl⟩)
 refine HT.out.mono ?_;rintro e w2⟨rfl,h2⟩;have K:=Hd h2;clear h2;go_wp2;go_returns;exact⟨rfl,K.out⟩
theorem ar_miss(h:AC w b n A t k1 k2 sp gp){id:Nat}(hu:isU32 id):Calls prog 221 #[.pointer (some ⟨b,0,none⟩),.int .u32 id] w fun e w'=>e=.returned (.tuple #[])∧ResA w b n A (t.miss n id) w':=by
 by_cases h1:id∈t.b1
 .exact ar_miss0 h hu h1
 .by_cases h2:id∈t.b2
  .exact ar_miss1 h hu h1 h2
  .exact ar_miss_none h hu h1 h2
end
def T7.fst(t:T7)(c:Int):Prop:=0<t.nw.length∧(t.goal<t.nw.length∨(t.nw.length=t.goal∧c=1))
instance(t:T7)(c:Int):Decidable (t.fst c):=by unfold T7.fst;infer_instance
def T7.goesC(t:T7)(c:Int):Option Nat:=if t.fst c then(t.nw.find? t.ev).or (t.mn.find? t.ev)else(t.mn.find? t.ev).or (t.nw.find? t.ev)
def T7.goes(t:T7)(id:Nat):Option Nat:=t.goesC (sideN t.b1 t.b2 id)
def T7.put(t:T7)(f:Nat):List Nat×List Nat:=(if f∈t.nw then t.b1++[t.page f]else t.b1,if f∈t.nw then t.b2 else t.b2++[t.page f])
def T7.keep(n:Nat)(t:T7)(f:Nat):T7:=⟨t.nw,t.mn,t.page,t.ev,(bnd n (t.put f).1 (t.put f).2).1,(bnd n (t.put f).1 (t.put f).2).2,t.goal⟩
def T7.gone(n:Nat)(t:T7)(id f:Nat):T7:=(if 0<=sideN t.b1 t.b2 id∨t.nw.length<n then t.keep n f else t).rem f
structure TI7(t:T7):Prop where
 u:∀f,f∈t.nw∨f∈t.mn->isU32 (t.page f)∧¬t.page f∈t.b1++t.b2
 ij:∀f g,(f∈t.nw∨f∈t.mn)->(g∈t.nw∨g∈t.mn)->t.page f=t.page g->f=g
section
variable{w w':World}{b n:Nat}{A:TA}{t:T7}{k1 k2 sp:List Nat}{gp:Nat->Nat}
theorem ar_eldest_at(h:AC w b n A t k1 k2 sp gp)(d:Nat):(Calls prog 236 #[.pointer (some ⟨b,0,none⟩),.int .i64 0] (w.drewN d) fun e w'=>e=.returned (.int .i64 (ixI (t.nw.find? t.ev)))∧∃d,w.drewN d=w')∧
  Calls prog 236 #[.pointer (some ⟨b,0,none⟩),.int .i64 1] (w.drewN d) fun e w'=>e=.returned (.int .i64 (ixI (t.mn.find? t.ev)))∧∃d,w.drewN d=w':=by
 have h1:=h.fr0 ((Fr.refl NoF w).drewN d);refine⟨(ar_eldest h1 0 (l:=t.nw) rfl).mono fun e w' ⟨he,d',hw⟩=>⟨he,d+d',?_⟩,(ar_eldest h1 1 (l:=t.mn) rfl).mono fun e w' ⟨he,d',hw⟩=>⟨he,d+d',?_⟩⟩
 .rw[<-hw,World.drewN_drewN]
 .rw[<-hw,World.drewN_drewN]
theorem ar_goes(h:AC w b n A t k1 k2 sp gp)(c:Int):Calls prog 231 #[.pointer (some ⟨b,0,none⟩),.int .i64 c] w fun e w'=>e=.returned (.int .i64 (ixI (t.goesC c)))∧∃d,w.drewN d=w':=by
 have c0:w.cell? ⟨b,0,none⟩=some (.int .i64 (t.goal:Nat)):=h.c 0 (by omega);have c1:w.cell? ⟨b,1,none⟩=some (.pointer (some ⟨A.rb,0,none⟩)):=h.c 1 (by omega);have HL:Hid (Calls prog 216 #[.pointer (some ⟨A.rb,0,none⟩),.int .i64 0] w fun e w'=>e=.returned (.int .i64 (t.nw.length:Nat))∧w=w'):=Len_all h.rr 0;have HE0:=Hd (fun d=>(ar_eldest_at h d).1);have HE1:=Hd (fun d=>(ar_eldest_at h d).2);have hln:=h.lists.2.2.2.2;rw[List.length_append]at hln;have hn:=h.hn;have hi:=h.hi
 have HG:Hid (t.goesC c=if(0<t.nw.length∧(t.goal<t.nw.length∨(t.nw.length=t.goal∧c=1)))then(t.nw.find? t.ev).or (t.mn.find? t.ev)else(t.mn.find? t.ev).or (t.nw.find? t.ev)):=by
  unfold Hid T7.goesC;by_cases q:t.fst c
  .rw[if_pos q];exact(if_pos q).symm
  .rw[if_neg q];exact(if_neg q).symm
 clear h;rw[HG.out];clear HG;generalize t.nw.length=L at*;generalize t.goal=g at*;generalize t.nw.find? t.ev=X at*;generalize t.mn.find? t.ev=Y at*;by_cases hL:0<L
 .have hL':0<(L:Int):=by omega
  by_cases hgL:g<L
  .rw[if_pos ⟨hL,.inl hgL⟩]
   have hgL':(g:Int)<L:=by omega
   clear hL hgL
   cases X with
   |none=>
    rw[show ixI (none:Option Nat)= -1 from rfl]at HE0;rw[show Option.or none Y=Y from rfl];go_enter func231,ntmps231
    go_wp2_with(go_at_call 216;refine HL.out.mono ?_;rintro e w'⟨rfl,rfl⟩)
    refine(HE0.out 0).mono ?_;rintro e w1⟨rfl,d1,rfl⟩
    go_wp2_with fail
    refine(HE1.out _).mono ?_;rintro e w2⟨rfl,d2,rfl⟩;go_wp2;go_returns;exact⟨rfl,_,rfl⟩
   |some x=>
    rw[show ixI (some x)=(x:Int)from rfl]at HE0;rw[show ixI (Option.or (some x) Y)=(x:Int)from rfl];go_enter func231,ntmps231
    go_wp2_with(go_at_call 216;refine HL.out.mono ?_;rintro e w'⟨rfl,rfl⟩)
    refine(HE0.out 0).mono ?_;rintro e w1⟨rfl,d1,rfl⟩;go_wp2;go_returns;exact⟨rfl,_,rfl⟩
  .by_cases he:L=g
   .have hgL':(L:Int)<=g:=by omega
    have he':((L:Int)==(g:Int))=true:=by simp;omega
    by_cases hc:c=1
    .rw[if_pos ⟨hL,.inr ⟨he,hc⟩⟩]
     subst hc;clear hL hgL he
     cases X with
     |none=>
      rw[show ixI (none:Option Nat)= -1 from rfl]at HE0;rw[show Option.or none Y=Y from rfl];go_enter func231,ntmps231
      go_wp2_with(go_at_call 216;refine HL.out.mono ?_;rintro e w'⟨rfl,rfl⟩)
      refine(HE0.out 0).mono ?_;rintro e w1⟨rfl,d1,rfl⟩
      go_wp2_with fail
      refine(HE1.out _).mono ?_;rintro e w2⟨rfl,d2,rfl⟩;go_wp2;go_returns;exact⟨rfl,_,rfl⟩
     |some x=>
      rw[show ixI (some x)=(x:Int)from rfl]at HE0;rw[show ixI (Option.or (some x) Y)=(x:Int)from rfl];go_enter func231,ntmps231
      go_wp2_with(go_at_call 216;refine HL.out.mono ?_;rintro e w'⟨rfl,rfl⟩)
      refine(HE0.out 0).mono ?_;rintro e w1⟨rfl,d1,rfl⟩;go_wp2;go_returns;exact⟨rfl,_,rfl⟩
    .rw[if_neg (fun q=>q.2.elim (fun q=>hgL q) (fun q=>hc q.2))]
     have hc':(c==1)=false:=by simpa using hc
     clear hL hgL he
     cases Y with
     |none=>
      rw[show ixI (none:Option Nat)= -1 from rfl]at HE1;rw[show Option.or none X=X from rfl];go_enter func231,ntmps231
      go_wp2_with(go_at_call 216;refine HL.out.mono ?_;rintro e w'⟨rfl,rfl⟩)
      refine(HE1.out 0).mono ?_;rintro e w1⟨rfl,d1,rfl⟩
      go_wp2_with fail
      refine(HE0.out _).mono ?_;rintro e w2⟨rfl,d2,rfl⟩;go_wp2;go_returns;exact⟨rfl,_,rfl⟩
     |some x=>
      rw[show ixI (some x)=(x:Int)from rfl]at HE1;rw[show ixI (Option.or (some x) X)=(x:Int)from rfl];go_enter func231,ntmps231
      go_wp2_with(go_at_call 216;refine HL.out.mono ?_;rintro e w'⟨rfl,rfl⟩)
      refine(HE1.out 0).mono ?_;rintro e w1⟨rfl,d1,rfl⟩;go_wp2;go_returns;exact⟨rfl,_,rfl⟩
   .rw[if_neg (fun q=>q.2.elim (fun q=>hgL q) (fun q=>he q.1))]
    have hgL':(L:Int)<=g:=by omega
    have he':((L:Int)==(g:Int))=false:=by simp;omega
    clear hL hgL he
    cases Y with
    |none=>
     rw[show ixI (none:Option Nat)= -1 from rfl]at HE1;rw[show Option.or none X=X from rfl];go_enter func231,ntmps231
     go_wp2_with(go_at_call 216;refine HL.out.mono ?_;rintro e w'⟨rfl,rfl⟩)
     refine(HE1.out 0).mono ?_;rintro e w1⟨rfl,d1,rfl⟩
     go_wp2_with fail
     refine(HE0.out _).mono ?_;rintro e w2⟨rfl,d2,rfl⟩;go_wp2;go_returns;exact⟨rfl,_,rfl⟩
    |some x=>
     rw[show ixI (some x)=(x:Int)from rfl]at HE1;rw[show ixI (Option.or (some x) X)=(x:Int)from rfl];go_enter func231,ntmps231
     go_wp2_with(go_at_call 216;refine HL.out.mono ?_;rintro e w'⟨rfl,rfl⟩)
     refine(HE1.out 0).mono ?_;rintro e w1⟨rfl,d1,rfl⟩;go_wp2;go_returns;exact⟨rfl,_,rfl⟩
 .rw[if_neg (fun q=>hL q.1)]
  have hL':(L:Int)<=0:=by omega
  clear hL
  cases Y with
  |none=>
   rw[show ixI (none:Option Nat)= -1 from rfl]at HE1;rw[show Option.or none X=X from rfl];go_enter func231,ntmps231
   go_wp2_with(go_at_call 216;refine HL.out.mono ?_;rintro e w'⟨rfl,rfl⟩)
   refine(HE1.out 0).mono ?_;rintro e w1⟨rfl,d1,rfl⟩
   go_wp2_with fail
   refine(HE0.out _).mono ?_;rintro e w2⟨rfl,d2,rfl⟩;go_wp2;go_returns;exact⟨rfl,_,rfl⟩
  |some x=>
   rw[show ixI (some x)=(x:Int)from rfl]at HE1;rw[show ixI (Option.or (some x) X)=(x:Int)from rfl];go_enter func231,ntmps231
   go_wp2_with(go_at_call 216;refine HL.out.mono ?_;rintro e w'⟨rfl,rfl⟩)
   refine(HE1.out 0).mono ?_;rintro e w1⟨rfl,d1,rfl⟩;go_wp2;go_returns;exact⟨rfl,_,rfl⟩
theorem goesC_none{t:T7}{c:Int}:t.goesC c=none↔cntL (t.nw++t.mn) t.ev=0:=by
 have h1:t.goesC c=none↔(∀x∈t.nw,¬t.ev x=true)∧∀x∈t.mn,¬t.ev x=true:=by
  unfold T7.goesC
  split<;>rw[Option.or_eq_none_iff,List.find?_eq_none,List.find?_eq_none]
  exact⟨fun q=>⟨q.2,q.1⟩,fun q=>⟨q.2,q.1⟩⟩
 rw[h1];unfold cntL;rw[List.length_eq_zero_iff,List.filter_eq_nil_iff];constructor
 .rintro⟨q1,q2⟩x hx
  exact(List.mem_append.1 hx).elim (q1 x) (q2 x)
 .intro q
  exact⟨fun x hx=>q x (List.mem_append.2 (.inl hx)),fun x hx=>q x (List.mem_append.2 (.inr hx))⟩
theorem goesC_mem{t:T7}{c:Int}{f:Nat}(h:t.goesC c=some f):f∈t.nw∨f∈t.mn:=by
 unfold T7.goesC at h
 split at h
 .rcases Option.or_eq_some_iff.1 h with q|⟨_,q⟩
  .exact .inl (List.mem_of_find?_eq_some q)
  .exact .inr (List.mem_of_find?_eq_some q)
 .rcases Option.or_eq_some_iff.1 h with q|⟨_,q⟩
  .exact .inr (List.mem_of_find?_eq_some q)
  .exact .inl (List.mem_of_find?_eq_some q)
theorem ar_victim_no(h:AC w b n A t k1 k2 sp gp)(p:Int){id:Nat}(hv:t.goes id=none):Calls prog 225 #[.pointer (some ⟨b,0,none⟩),.int .u32 p] w fun e w'=>e=.returned (.tuple #[.int .i64 0,.bool false])∧w=w':=by
 have HZ:=ar_size h;rw[goesC_none.1 hv]at HZ;have H:=Hd HZ;clear HZ hv h;go_enter func225,ntmps225
 go_wp2_with(go_at_call 224;refine H.out.mono ?_;rintro e w'⟨rfl,rfl⟩)
 go_returns;exact⟨rfl,rfl⟩
end
section
variable{w w':World}{b n:Nat}{A:TA}{t:T7}{k1 k2 sp:List Nat}{gp:Nat->Nat}
theorem ar_remove_res(h:ResA w b n A t w'){f:Nat}(hf:f<n):Calls prog 222 #[.pointer (some ⟨b,0,none⟩),.int .i64 f] w' fun e w''=>e=.returned (.tuple #[])∧ResA w b n A (t.rem f) w'':=by
 obtain⟨⟨k1,k2,sp,gp,h1⟩,h2⟩:=h;exact(ar_remove h1 f hf).mono fun e w'' ⟨he,q1,q2⟩=>⟨he,⟨_,_,_,_,q1⟩,h2.trans q2 (fun _ q=>.inl q)⟩
theorem ar_victim_yes(h:AC w b n A t k1 k2 sp gp)(hi:TI7 t){id:Nat}(hu:isU32 id){f:Nat}(hv:t.goes id=some f):Calls prog 225 #[.pointer (some ⟨b,0,none⟩),.int .u32 id] w fun e w'=>e=.returned (.tuple #[.int .i64 f,.bool true])∧ResA w b n A (t.gone n id f) w':=by
 have hm:=goesC_mem hv;have hfn:f<n:=hm.elim (h.lists.2.1 f) (h.lists.2.2.1 f);have hn:=h.hn;have hb:=h.hb
 have hcnt:¬cntL (t.nw++t.mn) t.ev=0:=fun q=>by
  have:=(goesC_none (c:=sideN t.b1 t.b2 id)).2 q;rw[show t.goesC (sideN t.b1 t.b2 id)=some f from hv]at this
  cases this
 have hcl:=cnt_le (t.nw++t.mn) t.ev;have hln:=h.lists.2.2.2.2;have hln0:t.nw.length<=n:=by rw[List.length_append]at hln;omega
 have HZ:=Hd (ar_size h);have HSD:=ga_side h.gg h.gH hu;have HGO:=ar_goes h (sideN t.b1 t.b2 id);rw[show t.goesC (sideN t.b1 t.b2 id)=some f from hv,show ixI (some f)=(f:Int)from rfl]at HGO
 obtain⟨kk,hkk,hk2,hkp⟩:∃kk:Nat,(if f∈t.nw then(0:Int)else if f∈t.mn then 1 else-1)=(kk:Int)∧kk<2∧(t.put f)=((if kk=0 then t.b1++[t.page f]else t.b1),(if kk=0 then t.b2 else t.b2++[t.page f])):=by
  by_cases q:f∈t.nw
  .exact⟨0,by rw[if_pos q];rfl,by omega,by unfold T7.put;rw[if_pos q,if_pos q];rfl⟩
  .exact⟨1,by rw[if_neg q,if_pos (hm.resolve_left q)];rfl,by omega,by unfold T7.put;rw[if_neg q,if_neg q];rfl⟩
 have HI:Hid (∀w',Fr NoF w w'->Calls prog 112 #[.pointer (some ⟨A.rb,0,none⟩),.int .i64 f] w' fun e w''=>e=.returned (.int .i64 (kk:Int))∧w'=w''):=by
  intro w' q;have:=In_all (h.rr.fr q (fun _ _ q=>q)) f;rw[ix2,hkk]at this;exact this
 have L0:Hid (∀d,Calls prog 216 #[.pointer (some ⟨A.rb,0,none⟩),.int .i64 0] (w.drewN d) fun e w'=>e=.returned (.int .i64 (t.nw.length:Nat))∧w.drewN d=w'):=fun d=>Len_all (h.rr.fr ((Fr.refl NoF w).drewN d) (fun _ _ q=>q)) 0
 obtain⟨u1,u2⟩:=hi.u f hm
 have hplen:(t.put f).1.length+(t.put f).2.length=t.b1.length+t.b2.length+1:=by
  unfold T7.put;by_cases q:f∈t.nw
  .simp only[if_pos q,List.length_append,List.length_singleton];omega
  .simp only[if_neg q,List.length_append,List.length_singleton];omega
 have HREM:Hid (∀w',Fr NoF w w'->Calls prog 232 #[.pointer (some ⟨b,5,none⟩),.int .i64 kk,.int .u32 (t.page f:Nat)] w' fun e w''=>e=.returned (.tuple #[])∧RemA w A.gr A.gpb A.mb (n+1) (t.put f).1 (t.put f).2 A.FG w''):=by
  intro w' q;have h1:=h.fr0 q;have:=ga_remember h1.gg h1.gH u1 u2 kk hk2 (by omega);rw[hkp];exact this.mono fun e w'' ⟨he,hr⟩=>⟨he,hr.trans0 q⟩
 have HHD:Hid (∀w2,Fr (FGm A.FG A.gpb A.mb) w w2->w2.cell? ⟨b,2,none⟩=some (.slice (some ⟨A.pb,0,none⟩) n n)∧b<w2.heap.size∧GH w2 b A.gr A.gpb A.mb (n+1) A.FG):=by
  intro w2 f2;obtain⟨n1,n2,n3,n4,n5,n6,n7,n8,n9,n10⟩:=h.lb.ne;have hd2:=h.hd.fr f2 n7;exact⟨hd2.cell (i:=2) (by omega),hd2.lt,h.gH.fr f2 n7⟩
 have c1:w.cell? ⟨b,1,none⟩=some (.pointer (some ⟨A.rb,0,none⟩)):=h.c 1 (by omega);have c2:w.cell? ⟨b,2,none⟩=some (.slice (some ⟨A.pb,0,none⟩) n n):=h.c 2 (by omega);have cp:=h.cp hfn;have lb:=h.hd.lt;have HKEEP:Hid (∀w2,RemA w A.gr A.gpb A.mb (n+1) (bnd n (t.put f).1 (t.put f).2).1 (bnd n (t.put f).1 (t.put f).2).2 A.FG w2->ResA w b n A (t.keep n f) w2):=fun w2 hr=>h.res (bnd_len (by omega)) hr
 have HRM0:Hid (∀w',Fr NoF w w'->Calls prog 222 #[.pointer (some ⟨b,0,none⟩),.int .i64 f] w' fun e w''=>e=.returned (.tuple #[])∧ResA w b n A (t.rem f) w''):=fun w' q=>ar_remove_res ⟨⟨_,_,_,_,h.fr0 q⟩,q.mono (fun _ q=>q.elim)⟩ hfn
 have HGN:Hid (t.gone n id f=(if 0<=sideN t.b1 t.b2 id∨t.nw.length<n then t.keep n f else t).rem f):=rfl;have hpl:(t.put f).1.length+(t.put f).2.length<=n+1:=by omega
 have HPL:=Hd hpl;have hz0:cntL (t.nw++t.mn) t.ev<=65535:=by omega
 generalize cntL (t.nw++t.mn) t.ev=z at*;have hcnt2:((z:Int)==0)=false:=by simp;omega
 have hz1:¬(z:Int)=0:=by omega
 rw[HGN.out];clear HGN h hi hm hv hkk hkp hplen hpl u1 u2 hk2;generalize sideN t.b1 t.b2 id=c at*;generalize t.page f=x at*;generalize t.put f=pt at*;generalize t.nw.length=L at*;by_cases hc:0<=c
 .rw[if_pos (.inl hc)]
  have HSD':=Hd HSD;have HGO':=Hd HGO;clear HSD HGO;go_enter func225,ntmps225
  go_wp2_with(first
   |(go_at_call 224;refine HZ.out.mono ?_;rintro e w'⟨rfl,rfl⟩)
   |(go_at_call 229;refine HSD'.out.mono ?_;rintro e w'⟨rfl,rfl⟩)
   |(go_at_call 231;refine HGO'.out.mono ?_;rintro e w'⟨rfl,d,rfl⟩))
  go_quiet (fail)
  go_wp2_with fail
  go_region_with (first
   |(go_at_call 112;(with_reducible refine(HI.out _ (by repeat(first|exact Fr.refl NoF _|apply Fr.drew|apply Fr.drewN))).mono ?_);rintro e w'⟨rfl,rfl⟩)
   |(go_at_call 232;(with_reducible refine(HREM.out _ (by repeat(first|exact Fr.refl NoF _|apply Fr.drew|apply Fr.drewN))).mono ?_);rintro e w2⟨rfl,h2⟩;have H2:=Hd h2;clear h2))
  all_goals
   obtain⟨j1,j2,js,jp,hga,hf2⟩:=H2.out;obtain⟨e2,lb2,hgh⟩:=HHD.out w2 hf2
   have HB:Hid (∀w',Fr NoF w2 w'->Calls prog 233 #[.pointer (some ⟨b,5,none⟩),.int .i64 n] w' fun e w''=>e=.returned (.tuple #[])∧ResA w b n A (t.keep n f) w''):=by
    intro w' q;refine(ga_bound (hga.fr0 q) (hgh.fr q (fun q=>q)) n (by omega) HPL.out).mono fun e w'' ⟨he,r1,r2,rs,rp,g1,g2⟩=>⟨he,HKEEP.out w'' ⟨r1,r2,rs,rp,g1,(hf2.trans q (fun _ q=>q.elim)).trans g2 (fun _ q=>.inl q)⟩⟩
   clear hga hf2 hgh
   go_wp2_with fail
   go_region_with (go_at_call 233;(with_reducible refine(HB.out _ (by repeat(first|exact Fr.refl NoF _|apply Fr.drew|apply Fr.drewN))).mono ?_);rintro e w3⟨rfl,h3⟩;have H3:=Hd h3;clear h3)
   all_goals
    have HR:=Hd (ar_remove_res H3.out hfn)
    go_wp2_with fail
    refine HR.out.mono ?_;rintro e w4⟨rfl,h4⟩;have K:=Hd h4;clear h4 HR;go_wp2;go_returns;exact⟨rfl,K.out⟩
 .have hc':c<0:=by omega
  by_cases hL:L<n
  .rw[if_pos (.inr hL)]
   have hL':(L:Int)<(n:Int):=by omega
   clear hL hc;have HSD':=Hd HSD;have HGO':=Hd HGO;clear HSD HGO;go_enter func225,ntmps225
   go_wp2_with(first
    |(go_at_call 224;refine HZ.out.mono ?_;rintro e w'⟨rfl,rfl⟩)
    |(go_at_call 229;refine HSD'.out.mono ?_;rintro e w'⟨rfl,rfl⟩)
    |(go_at_call 231;refine HGO'.out.mono ?_;rintro e w'⟨rfl,d,rfl⟩))
   go_quiet ((first|(go_at_call 216;with_reducible exact qa (L0.out _))|fail))
   go_wp2_with fail
   go_region_with (first
    |(go_at_call 112;(with_reducible refine(HI.out _ (by repeat(first|exact Fr.refl NoF _|apply Fr.drew|apply Fr.drewN))).mono ?_);rintro e w'⟨rfl,rfl⟩)
    |(go_at_call 232;(with_reducible refine(HREM.out _ (by repeat(first|exact Fr.refl NoF _|apply Fr.drew|apply Fr.drewN))).mono ?_);rintro e w2⟨rfl,h2⟩;have H2:=Hd h2;clear h2))
   all_goals
    obtain⟨j1,j2,js,jp,hga,hf2⟩:=H2.out;obtain⟨e2,lb2,hgh⟩:=HHD.out w2 hf2
    have HB:Hid (∀w',Fr NoF w2 w'->Calls prog 233 #[.pointer (some ⟨b,5,none⟩),.int .i64 n] w' fun e w''=>e=.returned (.tuple #[])∧ResA w b n A (t.keep n f) w''):=by
     intro w' q;refine(ga_bound (hga.fr0 q) (hgh.fr q (fun q=>q)) n (by omega) HPL.out).mono fun e w'' ⟨he,r1,r2,rs,rp,g1,g2⟩=>⟨he,HKEEP.out w'' ⟨r1,r2,rs,rp,g1,(hf2.trans q (fun _ q=>q.elim)).trans g2 (fun _ q=>.inl q)⟩⟩
    clear hga hf2 hgh
    go_wp2_with fail
    go_region_with (go_at_call 233;(with_reducible refine(HB.out _ (by repeat(first|exact Fr.refl NoF _|apply Fr.drew|apply Fr.drewN))).mono ?_);rintro e w3⟨rfl,h3⟩;have H3:=Hd h3;clear h3)
    all_goals
     have HR:=Hd (ar_remove_res H3.out hfn)
     go_wp2_with fail
     refine HR.out.mono ?_;rintro e w4⟨rfl,h4⟩;have K:=Hd h4;clear h4 HR;go_wp2;go_returns;exact⟨rfl,K.out⟩
  .rw[if_neg (fun q=>q.elim hc hL)]
   have hL':(n:Int)<=(L:Int):=by omega
   clear hL hc;have HSD':=Hd HSD;have HGO':=Hd HGO;clear HSD HGO;go_enter func225,ntmps225
   go_wp2_with(first
    |(go_at_call 224;refine HZ.out.mono ?_;rintro e w'⟨rfl,rfl⟩)
    |(go_at_call 229;refine HSD'.out.mono ?_;rintro e w'⟨rfl,rfl⟩)
    |(go_at_call 231;refine HGO'.out.mono ?_;rintro e w'⟨rfl,d,rfl⟩))
   go_quiet ((first|(go_at_call 216;with_reducible exact qa (L0.out _))|fail))
   go_wp2_with fail
   refine(HRM0.out _ (by repeat(first|exact Fr.refl NoF _|apply Fr.drew|apply Fr.drewN))).mono ?_;rintro e w2⟨rfl,h2⟩;have K:=Hd h2;clear h2;go_wp2;go_returns;exact⟨rfl,K.out⟩
end
end
section
open Go.Maps Go.RowKit
theorem rem7_mem{t:T7}{f x:Nat}(h:x∈(t.rem f).nw∨x∈(t.rem f).mn):x∈t.nw∨x∈t.mn:=by
 unfold T7.rem at h
 split at h
 .exact h.imp (fun q=>(List.mem_filter.1 q).1) (fun q=>(List.mem_filter.1 q).1)
 .exact h
theorem rem7_ne{t:T7}{f x:Nat}(hf:f∈t.nw∨f∈t.mn)(h:x∈(t.rem f).nw∨x∈(t.rem f).mn):¬x=f:=by
 rintro rfl;unfold T7.rem at h;rw[if_pos hf]at h;simp[awayN]at h
theorem rem7_page(t:T7)(f:Nat):(t.rem f).page=t.page∧(t.rem f).b1=t.b1∧(t.rem f).b2=t.b2∧(t.rem f).goal=t.goal:=by unfold T7.rem;split<;>exact⟨rfl,rfl,rfl,rfl⟩
theorem TI7.sub{t:T7}(h:TI7 t){b1 b2:List Nat}(g:Nat)(hs:∀x∈b1++b2,x∈t.b1++t.b2):TI7 ⟨t.nw,t.mn,t.page,t.ev,b1,b2,g⟩:=
 ⟨fun f hf=>⟨(h.u f hf).1,fun q=>(h.u f hf).2 (hs _ q)⟩,h.ij⟩
theorem drop1_mem{l:List Nat}{x:Nat}(h:x∈l.drop 1):x∈l:=List.mem_of_mem_drop h
theorem TI7.miss{t:T7}(h:TI7 t)(n id:Nat):TI7 (t.miss n id):=by
 unfold T7.miss
 split
 .exact h.sub _ (fun x q=>q)
 .split
  .exact h.sub _ (fun x q=>q)
  .split
   .exact h.sub _ (fun x q=>(List.mem_append.1 q).elim (fun q=>List.mem_append.2 (.inl (drop1_mem q))) (fun q=>List.mem_append.2 (.inr q)))
   .split
    .exact h.sub _ (fun x q=>(List.mem_append.1 q).elim (fun q=>List.mem_append.2 (.inl q)) (fun q=>List.mem_append.2 (.inr (drop1_mem q))))
    .exact h
theorem TI7.rem{t:T7}(h:TI7 t)(f:Nat):TI7 (t.rem f):=by
 obtain⟨e1,e2,e3,_⟩:=rem7_page t f;refine⟨fun x hx=>?_,fun x y hx hy e=>?_⟩
 .rw[e1,e2,e3];exact h.u x (rem7_mem hx)
 .rw[e1]at e;exact h.ij x y (rem7_mem hx) (rem7_mem hy) e
theorem TI7.setE{t:T7}(h:TI7 t)(f:Nat)(v:Bool):TI7 (t.setE f v):=by
 unfold T7.setE;split<;>exact⟨h.u,h.ij⟩
theorem bnd_mem{m:Nat}{b1 b2:List Nat}{x:Nat}(h:x∈(bnd m b1 b2).1++(bnd m b1 b2).2):x∈b1++b2:=by
 unfold bnd at h
 split at h
 .split at h
  .exact(List.mem_append.1 h).elim (fun q=>List.mem_append.2 (.inl (drop1_mem q))) (fun q=>List.mem_append.2 (.inr q))
  .exact(List.mem_append.1 h).elim (fun q=>List.mem_append.2 (.inl q)) (fun q=>List.mem_append.2 (.inr (drop1_mem q)))
 .exact h
theorem put_mem{t:T7}{f x:Nat}(h:x∈(t.put f).1++(t.put f).2):x∈t.b1++t.b2∨x=t.page f:=by
 unfold T7.put at h;simp only[List.mem_append]at h⊢;by_cases q:f∈t.nw
 .simp only[if_pos q,List.mem_append,List.mem_singleton]at h
  rcases h with(h|h)|h
  .exact .inl (.inl h)
  .exact .inr h
  .exact .inl (.inr h)
 .simp only[if_neg q,List.mem_append,List.mem_singleton]at h
  rcases h with h|h|h
  .exact .inl (.inl h)
  .exact .inl (.inr h)
  .exact .inr h
theorem TI7.gone{t:T7}(h:TI7 t)(n id:Nat){f:Nat}(hf:f∈t.nw∨f∈t.mn):TI7 (t.gone n id f):=by
 unfold T7.gone
 split
 .have hf':f∈(t.keep n f).nw∨f∈(t.keep n f).mn:=hf
  obtain⟨e1,e2,e3,_⟩:=rem7_page (t.keep n f) f;refine⟨fun x hx=>?_,fun x y hx hy e=>?_⟩
  .have hx0:x∈t.nw∨x∈t.mn:=@rem7_mem (t.keep n f) f x hx
   rw[e1,e2,e3];refine⟨(h.u x hx0).1,fun q=>?_⟩;rcases put_mem (bnd_mem q)with q|q
   .exact(h.u x hx0).2 q
   .exact rem7_ne hf' hx (h.ij x f hx0 hf q)
  .rw[e1]at e
   exact h.ij x y (@rem7_mem (t.keep n f) f x hx) (@rem7_mem (t.keep n f) f y hy) e
 .exact h.rem f
theorem TI7.acc{t:T7}(h:TI7 t){f id:Nat}(hu:isU32 id)(hp:(f∈t.nw∨f∈t.mn)∨∀g,g∈t.nw∨g∈t.mn->¬t.page g=id):TI7 (t.acc f id):=by
 unfold T7.acc
 split
 .rename_i h2
  have hmem:∀x,x∈awayN t.nw f∨x∈awayN t.mn f++[f]->x∈t.nw∨x∈t.mn:=by
   intro x hx;rcases hx with q|q
   .exact .inl (List.mem_filter.1 q).1
   .rcases List.mem_append.1 q with q|q
    .exact .inr (List.mem_filter.1 q).1
    .rw[List.mem_singleton.1 q];exact h2
  exact⟨fun x hx=>h.u x (hmem x hx),fun x y hx hy e=>h.ij x y (hmem x hx) (hmem y hy) e⟩
 .rename_i h2
  have hp':=hp.resolve_left h2
  have key:∀(nw' mn' b1' b2':List Nat),(∀x,x∈nw'∨x∈mn'->(x∈t.nw∨x∈t.mn)∨x=f)->(∀y∈b1'++b2',y∈t.b1++t.b2∧¬y=id)->TI7 ⟨nw',mn',upd t.page f id,t.ev,b1',b2',t.goal⟩:=by
   intro nw' mn' b1' b2' hmem hgh;refine⟨fun x hx=>?_,fun x y hx hy e=>?_⟩
   .show isU32 (upd t.page f id x)∧¬upd t.page f id x∈b1'++b2'
    by_cases e:x=f
    .subst e;rw[upd_same];exact⟨hu,fun q=>(hgh _ q).2 rfl⟩
    .rw[upd_other _ _ e]
     have hx0:=(hmem x hx).resolve_right e;exact⟨(h.u x hx0).1,fun q=>(h.u x hx0).2 (hgh _ q).1⟩
   .have e:upd t.page f id x=upd t.page f id y:=e
    by_cases ex:x=f
    .by_cases ey:y=f
     .rw[ex,ey]
     .rw[ex,upd_same,upd_other _ _ ey]at e
      exact(hp' y ((hmem y hy).resolve_right ey) e.symm).elim
    .by_cases ey:y=f
     .rw[ey,upd_same,upd_other _ _ ex]at e
      exact(hp' x ((hmem x hx).resolve_right ex) e).elim
     .rw[upd_other _ _ ex,upd_other _ _ ey]at e
      exact h.ij x y ((hmem x hx).resolve_right ex) ((hmem y hy).resolve_right ey) e
  split
  .refine key _ _ _ _ (fun x hx=>?_) (fun y hy=>?_)
   .rcases hx with q|q
    .exact .inl (.inl q)
    .rcases List.mem_append.1 q with q|q
     .exact .inl (.inr q)
     .exact .inr (List.mem_singleton.1 q)
   .rcases List.mem_append.1 hy with q|q
    .have:=List.mem_filter.1 q
     exact⟨List.mem_append.2 (.inl this.1),by simpa using this.2⟩
    .have:=List.mem_filter.1 q
     exact⟨List.mem_append.2 (.inr this.1),by simpa using this.2⟩
  .rename_i hid
   refine key _ _ _ _ (fun x hx=>?_) (fun y hy=>⟨hy,fun e=>hid (e▸hy)⟩);rcases hx with q|q
   .rcases List.mem_append.1 q with q|q
    .exact .inl (.inl q)
    .exact .inr (List.mem_singleton.1 q)
   .exact .inl (.inr q)
def polA(n:Nat):Pol T7 where
 miss t id:=t.miss n id
 access t f id:=t.acc f id
 set t f v:=t.setE f v
 victim t id:=t.goes id
 gone t id:=match t.goes id with|none=>t|some f=>t.gone n id f
 remove t f:=t.rem f
 size t:=cntL (t.nw++t.mn) t.ev
 ghosts t:=t.b1++t.b2
def preA(n:Nat)(t:T7)(c:Cl):Prop:=((c.kind=1∨c.kind=2∨c.kind=4)->c.frame<n)∧(c.kind=1->isU32 c.page∧((c.frame∈t.nw∨c.frame∈t.mn)∨∀g,g∈t.nw∨g∈t.mn->¬t.page g=c.page))∧((c.kind=0∨c.kind=3)->isU32 c.page)
def CRA(b n:Nat)(w:World)(t:T7)(F:Nat->Prop):Prop:=∃A k1 k2 sp gp,AC w b n A t k1 k2 sp gp∧TI7 t∧∀i,F i↔FT A b i
theorem cod7(b n:Nat):CodG (polA n) (CRA b n) b (preA n) 221 219 223 225 222 where
 fr:=by
  rintro w w' t F G⟨A,k1,k2,sp,gp,h,hi,hF⟩f hd;exact⟨A,k1,k2,sp,gp,h.fr f (fun i q=>hd i ((hF i).2 q)),hi,hF⟩
 lt:=by
  rintro w t F⟨A,k1,k2,sp,gp,h,hi,hF⟩i q;exact h.lt i ((hF i).1 q)
 miss:=by
  rintro w t F c⟨A,k1,k2,sp,gp,h,hi,hF⟩hp hk;exact(ar_miss h (hp.2.2 (.inl hk))).mono fun e w' ⟨he,⟨q1,q2,q3,q4,h'⟩,hf⟩=>⟨he,F,⟨A,q1,q2,q3,q4,h',hi.miss n _,hF⟩,hf.mono (fun i q=>(hF i).2 q),fun i hi=>.inl hi⟩
 access:=by
  rintro w t F c⟨A,k1,k2,sp,gp,h,hi,hF⟩hp hk;obtain⟨hu,hq⟩:=hp.2.1 hk;exact(ar_access h (hp.1 (.inl hk)) hu).mono fun e w' ⟨he,⟨q1,q2,q3,q4,h'⟩,hf⟩=>⟨he,F,⟨A,q1,q2,q3,q4,h',hi.acc hu hq,hF⟩,hf.mono (fun i q=>(hF i).2 q),fun i hi=>.inl hi⟩
 set:=by
  rintro w t F c⟨A,k1,k2,sp,gp,h,hi,hF⟩hp hk;exact(ar_set h c.frame (hp.1 (.inr (.inl hk))) c.on).mono fun e w' ⟨he,h',hf⟩=>⟨he,F,⟨A,k1,k2,sp,gp,h',hi.setE _ _,hF⟩,hf.mono (fun i q=>(hF i).2 (q.elim (fun q=>.inr (.inr (.inl q))) (fun q=>.inl q))),fun i hi=>.inl hi⟩
 victimNo:=by
  rintro w t F c⟨A,k1,k2,sp,gp,h,hi,hF⟩hp hk hv;exact(ar_victim_no h _ hv).mono fun e w' ⟨he,hw⟩=>⟨he,F,hw▸⟨A,k1,k2,sp,gp,h,hi,hF⟩,hw▸Fr.refl _ _,fun i hi=>.inl hi⟩
 victimYes:=by
  rintro w t F c a⟨A,k1,k2,sp,gp,h,hi,hF⟩hp hk hv;have hv:t.goes c.page=some a:=hv;have hg:(polA n).gone t c.page=t.gone n c.page a:=by show(match t.goes c.page with|none=>t|some f=>t.gone n c.page f)=_;rw[hv]
  rw[hg];exact(ar_victim_yes h hi (hp.2.2 (.inr hk)) hv).mono fun e w' ⟨he,⟨q1,q2,q3,q4,h'⟩,hf⟩=>⟨he,F,⟨A,q1,q2,q3,q4,h',hi.gone n _ (goesC_mem hv),hF⟩,hf.mono (fun i q=>(hF i).2 q),fun i hi=>.inl hi⟩
 remove:=by
  rintro w t F c⟨A,k1,k2,sp,gp,h,hi,hF⟩hp hk;exact(ar_remove h c.frame (hp.1 (.inr (.inr hk)))).mono fun e w' ⟨he,h',hf⟩=>⟨he,F,⟨A,k1,k2,sp,gp,h',hi.rem _,hF⟩,hf.mono (fun i q=>(hF i).2 q),fun i hi=>.inl hi⟩
end
end Go.Proofs.YtoenclhimbpfeaaGreatDoor
