/- Part 48. -/
import Derived.Test.YtoenclhimbpfeaaGreatDoorC47
import Derived.Deep.Cut
namespace Go.Proofs.YtoenclhimbpfeaaGreatDoor
set_option linter.all false
set_option maxHeartbeats 16000000
set_option maxRecDepth 100000
section
open Go.Maps Go.Proofs.Tryz Go.RowKit
abbrev oneM(x:Nat)(v:Value):Int->Option Value:=fun z=>if z=(x:Int)then some v else none
theorem oneM_put(x:Nat)(v v':Value):updV (oneM x v) (x:Int) (some v')=oneM x v':=by
 funext z
 unfold updV oneM
 split<;>rfl
theorem noneM_put(x:Nat)(v':Value):updV (fun _=>none) (x:Int) (some v')=oneM x v':=by
 funext z
 unfold updV oneM
 split<;>rfl
theorem oneM_at(x:Nat)(v:Value):oneM x v (x:Int)=some v:=if_pos rfl
abbrev PgV(w:World)(mb c:Nat)(m:Int->Option Value):Prop:=MpV prog 34 .u32 zV w mb c m
theorem MVcr:MV prog 103 34 65 .u32 zV:=⟨underlying103,underlying34,fun w=>by kernel_rfl⟩
theorem EIq:EI prog 65 27 1 8:=EI.mk' (z:=.int .u64 0) underlying65 (by kernel_rfl) rfl (by decide)
theorem EIcw:EI prog 51 34 1 4:=EI.mk' (z:=.int .u32 0) underlying51 (by kernel_rfl) rfl (by decide)
theorem u32wfc{x:Nat}(h:x<4294967296):(Lit.int .u32 (x:Int)).wf=true:=by simp[Lit.wf,IntKind.min,IntKind.max,IntKind.signed,IntKind.bits];omega
def pgS(mb:Nat)(wv:Value):Nat->Value:=fun i=>match i with|0=>.map (some mb)|1=>wv|_=>.nilFunc
theorem pgS_wv(mb:Nat)(wv wv':Value):upd (pgS mb wv) 1 wv'=pgS mb wv':=by
 funext j
 unfold upd
 match j with
 |0|1=>rfl
 |_+2=>simp[pgS]
def u64C(l:List Nat):List Value:=l.map fun y=>.int .u64 (y:Nat)
theorem u64C_one(l:List Nat):∀u∈u64C l,u.oneCell'=true:=by
 intro u hu;obtain⟨y,_,rfl⟩:=List.mem_map.1 hu;rfl
structure OneP(base pb mb x kk:Nat)(v:Value)(l:List Nat)(w:World):Prop where
 ex:∃wv k zs,k<=kk∧Blk w pb 2 (pgS mb wv)∧w.ownsRow base 34 1 wv k zs∧(∀u∈zs,u.oneCell'=true)∧∀b,wv.ownBlock=some b->¬b=pb∧¬b=mb∧¬v.ownBlock=some b
 mp:PgV w mb 1 (oneM x v)
 vl:w.ownsRow base 27 1 v l.length (u64C l)
 nv:∀b,v.ownBlock=some b->¬b=pb∧¬b=mb
 n1:¬pb=mb
 lo:base<=pb∧base<=mb
theorem own_lower{w:World}{base base' e size n:Nat}{v:Value}{xs:List Value}(h:w.ownsRow base e size v n xs)(hb:base'<=base):w.ownsRow base' e size v n xs:=
 ⟨h.1,h.2.imp id (fun⟨g,cap,cur,e1,h1,h2⟩=>⟨g,cap,cur,e1,Nat.le_trans hb h1,h2⟩)⟩
section
variable{w w':World}{base pb mb x kk:Nat}{v wv:Value}{l:List Nat}
theorem OneP.fr0(h:OneP base pb mb x kk v l w)(f:Fr NoF w w'):OneP base pb mb x kk v l w':=by
 obtain⟨wv,k,zs,h0,h1,h2,h3,h4⟩:=h.ex;exact⟨⟨wv,k,zs,h0,h1.fr f id,own_keep h2 f (fun _ _ q=>q),h3,h4⟩,h.mp.fr f id,own_keep h.vl f (fun _ _ q=>q),h.nv,h.n1,h.lo⟩
structure NoP(base pb mb:Nat)(w:World):Prop where
 hd:Blk w pb 2 (pgS mb (.slice none 0 0))
 mp:PgV w mb 0 (fun _=>none)
 n1:¬pb=mb
 lo:base<=pb∧base<=mb
theorem NoP.fr0(h:NoP base pb mb w)(f:Fr NoF w w'):NoP base pb mb w':=⟨h.hd.fr f id,h.mp.fr f id,h.n1,h.lo⟩
theorem learn_new(h:NoP base pb mb w)(hx:x<4294967296):Calls prog 31 #[.pointer (some ⟨pb,0,none⟩),.agg #[.int .i64 0,.int .u32 0,.int .u64 0],.agg #[.int .i64 0,.int .u32 x,.int .u64 0]] w fun e w'=>e=.returned (.tuple #[])∧(∃v,OneP base pb mb x 0 v [0] w')∧Fr (fun i=>base<=i) w w':=by
 have hwf:=u32wfc hx;have HA:Fr NoF w ((w.alloc (.cells #[.int .i64 0,.int .u32 0,.int .u64 0] 36)).alloc (.cells #[.int .i64 0,.int .u32 (x:Nat),.int .u64 0] 48)):=((Fr.refl NoF w).alloc _).alloc _;have hb:base<=w.heap.size:=Nat.le_trans h.lo.1 (Nat.le_of_lt h.hd.lt);obtain⟨wA,hwA⟩:∃wA,wA=(w.alloc (.cells #[.int .i64 0,.int .u32 0,.int .u64 0] 36)).alloc (.cells #[.int .i64 0,.int .u32 (x:Nat),.int .u64 0] 48):=⟨_,rfl⟩;rw[<-hwA]at HA;have hsA:wA.heap.size=w.heap.size+1+1:=by rw[hwA];simp only[World.size_alloc]
 have H0:=h.fr0 HA;have hd0:Fr NoF wA ((wA.alloc (.cells #[.int .u64 0] 27)).drew):=((Fr.refl NoF wA).alloc _).drew;have H1:=H0.fr0 hd0;have how:((wA.alloc (.cells #[.int .u64 0] 27)).drew).ownsRow base 27 1 (.slice (some ⟨wA.heap.size,0,none⟩) 1 1) 1 [.int .u64 0]:=own_keep (own_lower (own_new (w:=wA) (w0:=wA) (Nat.le_refl _) #[.int .u64 0] 27 1 1 wA.heap.size rfl rfl (by unfold maxLen;omega)) (by omega)) (Fr.refl NoF _).drew (fun _ _ q=>q);obtain⟨w2,hrun,m1,m2⟩:=H1.mp.put_run MVcr (by omega) hwf (.slice (some ⟨wA.heap.size,0,none⟩) 1 1);rw[noneM_put]at m1;have hml:=H0.mp.lt;have hpl:=H0.hd.lt
 have HR:Hid ((∃v,OneP base pb mb x 0 v [0] w2)∧Fr (fun i=>base<=i) w w2):=by
  have hlo:=h.lo;refine⟨⟨_,⟨⟨.slice none 0 0,0,[],Nat.zero_le _,H1.hd.fr m2 h.n1,World.ownsRow_nil _ _ _ _,fun u q=>(by cases q),fun b q=>(by cases q)⟩,m1,own_keep how m2 (fun b q e=>by simp[Value.ownBlock]at q;omega),fun b q=>?_,h.n1,hlo⟩⟩,?_⟩
  .simp[Value.ownBlock]at q;omega
  .exact((HA.trans hd0 (fun _ q=>.inl q)).none).trans m2 (fun i q=>.inl (by show base<=i;rw[q];exact hlo.2))
 have hd1:Fr NoF wA (wA.alloc (.cells #[.int .u64 0] 27)):=(Fr.refl NoF wA).alloc _;have c0:=H0.hd.cell (i:=0) (by omega);have l0:=H0.hd.lt;have c1:=(H0.fr0 hd1).hd.cell (i:=0) (by omega);have l1:=(H0.fr0 hd1).hd.lt;simp only[pgS]at c0 c1;clear hd1;rw[hwA]at hrun c0 c1 l0 l1;simp only[World.size_alloc]at hrun;have hpw:=h.hd.lt;clear hpl h H0 H1 HA m1 m2 how hd0 hsA hml hwA hb;go_enter func31,ntmps31
 go_wp2_with fail
 go_region
 go_returns;exact⟨rfl,HR.out⟩
theorem settle_one{a b:Nat}(h:OneP base pb mb x kk v [a,b] w)(hx:x<4294967296):Calls prog 55 #[.pointer (some ⟨pb,0,none⟩),.int .u32 x] w fun e w'=>e=.returned (.tuple #[])∧(∃v,OneP base pb mb x kk v [b] w')∧Fr (fun i=>base<=i) w w':=by
 have hwf:=u32wfc hx;obtain⟨wv,k,zs,hk,h1,h2,h3,h4⟩:=h.ex;have hlo:=h.lo;have hb:base<=w.heap.size:=Nat.le_trans hlo.1 (Nat.le_of_lt h1.lt);have hlk:=h.mp.look_run MVcr hwf;rw[oneM_at]at hlk;simp only[Option.getD_some]at hlk;obtain⟨g,off,cap,rfl,q1,q2,gl,gc⟩:=(SlC.ofOwn h.vl (u64C_one _)).at (k:=1) (by show 1<2;omega) (by omega)
 obtain rfl:off=0:=by
  obtain⟨_,z⟩:=h.vl;rcases z with⟨e,_⟩|⟨_,_,_,e,_⟩
  .cases e
  .simp at e;omega
 have g1:w.cell? ⟨g,1,none⟩=some (.int .u64 b):=by have:=gc 1 (.int .u64 (b:Nat)) rfl;simpa using this
 clear gc;have hd0:Fr NoF w ((w.alloc (.cells #[.int .u64 (b:Nat)] 27)).drew):=((Fr.refl NoF w).alloc _).drew;have how:((w.alloc (.cells #[.int .u64 (b:Nat)] 27)).drew).ownsRow base 27 1 (.slice (some ⟨w.heap.size,0,none⟩) 1 1) 1 [.int .u64 (b:Nat)]:=own_keep (own_lower (own_new (w:=w) (w0:=w) (Nat.le_refl _) #[.int .u64 (b:Nat)] 27 1 1 w.heap.size rfl rfl (by unfold maxLen;omega)) hb) (Fr.refl NoF _).drew (fun _ _ q=>q);obtain⟨w2,hrun,m1,m2⟩:=(h.mp.fr hd0 id).put_run MVcr (by omega) hwf (.slice (some ⟨w.heap.size,0,none⟩) 1 1);rw[oneM_put]at m1;have e1:(if(oneM x (.slice (some ⟨g,0,none⟩) [a,b].length cap) (x:Int)).isSome then 1 else 1+1)=1:=by rw[oneM_at];rfl
 rw[e1]at m1;have hml:=h.mp.lt;have hpl:=h1.lt
 have HR:Hid ((∃v,OneP base pb mb x kk v [b] w2)∧Fr (fun i=>base<=i) w w2):=by
  refine⟨⟨_,⟨⟨wv,k,zs,hk,(h1.fr hd0 id).fr m2 h.n1,own_keep (own_keep h2 hd0 (fun _ _ q=>q)) m2 (fun b q e=>(h4 b q).2.1 e),h3,fun b q=>⟨(h4 b q).1,(h4 b q).2.1,fun e=>?_⟩⟩,m1,own_keep how m2 (fun b q e=>by simp[Value.ownBlock]at q;omega),fun b q=>?_,h.n1,hlo⟩⟩,?_⟩
  .have:=(World.ownsRow.lt h2 b q).1
   have:=(World.ownsRow.lt h2 b q).2;simp[Value.ownBlock]at e;omega
  .simp[Value.ownBlock]at q;omega
  .exact(hd0.none).trans m2 (fun i q=>.inl (by show base<=i;rw[q];exact hlo.2))
 have c0:=h1.cell (i:=0) (by omega);simp only[pgS]at c0;simp only[List.length_cons,List.length_nil,Nat.zero_add,Nat.reduceAdd]at hlk hrun;clear h h1 h2 h3 h4 m1 m2 how hd0 hb hml e1 q1 q2;go_enter func55,ntmps55
 go_wp2_with fail
 go_region
 go_returns;exact⟨rfl,HR.out⟩
theorem write_one{a b:Nat}(h:OneP base pb mb x kk v [a] w)(hkk:kk<=1000)(hx:x<4294967296):Calls prog 54 #[.pointer (some ⟨pb,0,none⟩),.int .u32 x,.int .u64 b] w fun e w'=>e=.returned (.tuple #[])∧(∃v,OneP base pb mb x (kk+1) v [a,b] w')∧Fr (fun i=>base<=i) w w':=by
 have hwf:=u32wfc hx;obtain⟨wv,k,zs,hk,h1,h2,h3,h4⟩:=h.ex;have hlo:=h.lo;have hb:base<=w.heap.size:=Nat.le_trans hlo.1 (Nat.le_of_lt h1.lt);have hlk:=h.mp.look_ok_run MVcr hwf;rw[oneM_at]at hlk;simp only[Option.getD_some,Option.isSome_some]at hlk;obtain⟨va,vc,rfl,q1,q2⟩:=(SlC.ofOwn h.vl (u64C_one _)).shape;obtain⟨wa,wc,rfl,q3,q4⟩:=(SlC.ofOwn h2 h3).shape;have c0:=h1.cell (i:=0) (by omega);have c1:=h1.cell (i:=1) (by omega);have f1:=h1.frozen 1;have hpl:=h1.lt;simp only[pgS]at c0 c1;have HV:=Hd h.vl;have HM:=Hd h.mp;have HP:=Hd h1;have HKK:=Hd hk;have HW:=Hd (And.intro h2 (And.intro h3 h4));have HNV:=Hd h.nv;have HN1:=Hd h.n1;unfold maxLen at q2 q4;simp only[List.length_cons,List.length_nil,Nat.zero_add,Nat.reduceAdd]at hlk q1;clear h h1 h2 h3 h4;go_enter func54,ntmps54
 go_wp2_with(at_builtin;go_must(refine appLB (base:=base) EIcw rfl _ _ rfl (by rfl) (by rfl) (by simp only[World.size_alloc];omega) (own_keep HW.out.1 ((Fr.refl NoF _).alloc _) (fun _ _ q=>q)) (SlC.ofOwn (own_new (w0:=w) (Nat.le_refl _) #[.int .u32 (x:Nat)] 34 1 1 _ rfl rfl (by unfold maxLen;omega)) (by simp[Value.oneCell'])) (by unfold maxLen;omega) (by omega) ?_);intro v' w2 hown' hf' hob';obtain⟨a8,c8,rfl,_,_⟩:=(SlC.ofOwn hown' (by intro u hu;rcases List.mem_append.1 hu with q|q;exact HW.out.2.1 u q;simp at q;subst q;rfl)).shape;have HF':=Hd (Fr.trans (F:=fun b=>(Value.slice wa k wc).ownBlock=some b) (a:=w) (Fr.none ((Fr.refl NoF w).alloc _)) hf' (fun i hi=>.inl hi));have HO':=Hd hown';have HB':=Hd hob';have hb2:=HP.out.fr HF'.out (fun e=>(HW.out.2.2 _ e).1 rfl);have g5:=hb2.cell (i:=1) (by omega);simp only[pgS]at g5;have gf:=hb2.frozen 1;have gl:=hb2.lt;have HB2:=Hd hb2;clear hf' hown' hob' hb2)
 have HX:Hid (Blk (w2.setCell ⟨pb,1,none⟩ (.slice a8 (k+1) c8)) pb 2 (pgS mb (.slice a8 (k+1) c8))):=by
  have:=HB2.out.set 1 (.slice a8 (k+1) c8)
  rwa [pgS_wv]at this
 have FX:Hid (Fr (fun b=>b=pb∨(Value.slice wa k wc).ownBlock=some b) w (w2.setCell ⟨pb,1,none⟩ (.slice a8 (k+1) c8))):=(HF'.out.mono (fun _ q=>.inr q)).setCell (p:=⟨pb,1,none⟩) (.inl (.inl rfl)) _
 have OX:Hid ((w2.setCell ⟨pb,1,none⟩ (.slice a8 (k+1) c8)).ownsRow base 34 1 (.slice a8 (k+1) c8) (k+1) (zs++[.int .u32 (x:Nat)])∧∀b,(Value.slice a8 (k+1) c8).ownBlock=some b->¬b=pb∧¬b=mb∧¬(Value.slice va 1 vc).ownBlock=some b):=by
  have key:∀b,(Value.slice a8 (k+1) c8).ownBlock=some b->¬b=pb∧¬b=mb∧¬(Value.slice va 1 vc).ownBlock=some b:=fun b q=>by
   rcases HB'.out b q with z|z
   .exact HW.out.2.2 b z
   .have e1:=HP.out.lt
    have e2:=HM.out.lt;simp only[World.size_alloc]at z;refine⟨by omega,by omega,fun z2=>?_⟩;have:=(World.ownsRow.lt HV.out b z2).2;omega
  exact⟨own_keep HO'.out ((Fr.refl (fun b=>b=pb) w2).setCell (p:=⟨pb,1,none⟩) (.inl rfl) _) (fun b q e=>(key b q).1 e),key⟩
 clear HO' HB' HB2 HF' HP c0 c1 f1 hpl g5 gf gl;generalize w2.setCell ⟨pb,1,none⟩ (.slice a8 (k+1) c8)=w3 at*;have c0:Hid (∀W,Fr NoF w3 W->W.cell? ⟨pb,0,none⟩=some (.map (some mb))):=fun W f=>(HX.out.fr f id).cell (i:=0) (by omega)
 go_wp2_with fail
 refine region_tail (fun w'=>w'.cell? ⟨pb,0,none⟩=some (.map (some mb))) 9 (by kernel_rfl) rfl rfl (by kernel_rfl) ?_;simp only[List.take_succ_cons,List.take_zero];have hS:(fun w'=>w'.cell? ⟨pb,0,none⟩=some (.map (some mb))) w3.drew:=c0.out _ (Fr.refl NoF _).drew;refine wpAnyH_take (i:=0) (v:=?_) rfl (by decide+kernel) (by decide+kernel) (by decide+kernel) (fun _ _ _ h=>h) (Or.inl ⟨by rfl,?_⟩) hS ?_
 rotate_left
 .intro wS hSw;(try dsimp only at hSw);go_simp
  try with_reducible rfl
 try simp only[Act.put,List.setIfInBounds_toArray,List.set_cons_zero,List.set_cons_succ]
 refine wpAnyH_take (i:=1) (v:=?_) rfl (by decide+kernel) (by decide+kernel) (by decide+kernel) (fun _ _ _ h=>h) (Or.inl ⟨by rfl,?_⟩) hS ?_
 rotate_left
 .intro wS hSw;(try dsimp only at hSw);go_simp
  try with_reducible rfl
 try simp only[Act.put,List.setIfInBounds_toArray,List.set_cons_zero,List.set_cons_succ]
 refine wpAnyH_take (i:=2) (v:=?_) rfl (by decide+kernel) (by decide+kernel) (by decide+kernel) (fun _ _ _ h=>h) (Or.inl ⟨by rfl,?_⟩) hS ?_
 rotate_left
 .intro wS hSw;(try dsimp only at hSw);go_simp
  try with_reducible rfl
 try simp only[Act.put,List.setIfInBounds_toArray,List.set_cons_zero,List.set_cons_succ]
 refine wpAnyH_take (i:=3) (v:=?_) rfl (by decide+kernel) (by decide+kernel) (by decide+kernel) (fun _ _ _ h=>h) (Or.inl ⟨by rfl,?_⟩) hS ?_
 rotate_left
 .intro wS hSw;(try dsimp only at hSw);go_simp
  try with_reducible rfl
 try simp only[Act.put,List.setIfInBounds_toArray,List.set_cons_zero,List.set_cons_succ]
 refine wpAnyH_take (i:=4) (v:=?_) rfl (by decide+kernel) (by decide+kernel) (by decide+kernel) (fun _ _ _ h=>h) (Or.inl ⟨by rfl,?_⟩) hS ?_
 rotate_left
 .intro wS hSw;(try dsimp only at hSw);go_simp
  try with_reducible rfl
 try simp only[Act.put,List.setIfInBounds_toArray,List.set_cons_zero,List.set_cons_succ]
 refine wpAnyH_take (i:=5) (v:=?_) rfl (by decide+kernel) (by decide+kernel) (by decide+kernel) (fun _ _ _ h=>h) (Or.inl ⟨by rfl,?_⟩) hS ?_
 rotate_left
 .intro wS hSw;(try dsimp only at hSw);go_simp
  try with_reducible rfl
 try simp only[Act.put,List.setIfInBounds_toArray,List.set_cons_zero,List.set_cons_succ]
 refine wpAnyH_take (i:=6) (v:=?_) rfl (by decide+kernel) (by decide+kernel) (by decide+kernel) (fun _ _ _ h=>h) (Or.inl ⟨by rfl,?_⟩) hS ?_
 rotate_left
 .intro wS hSw;(try dsimp only at hSw);go_simp
  try with_reducible rfl
 try simp only[Act.put,List.setIfInBounds_toArray,List.set_cons_zero,List.set_cons_succ]
 clear hS;refine wpAnyH_ready (rs:=[7]) (by kernel_rfl) (by simp) ?_;refine AllReadyH.cons rfl (fun K hK=>?_) ?_
 .go_simp
  refine hK.out _ _ (by exact c0.out _ ((Fr.refl NoF _).drew.alloc _)) (fun hS=>?_);clear hK K
  try simp only[Act.put,List.setIfInBounds_toArray,List.set_cons_zero,List.set_cons_succ]
  refine wpAnyH_ready (rs:=[8]) (by kernel_rfl) (by simp) ?_;refine AllReadyH.cons rfl (fun K hK=>?_) ?_
  .have fa:Fr NoF w3 (w3.drew.alloc (.cells #[.int .u64 (b:Nat)] 27)):=(Fr.refl NoF w3).drew.alloc _
   have fz:Fr (fun b=>b=pb∨(Value.slice wa k wc).ownBlock=some b) w (w3.drew.alloc (.cells #[.int .u64 (b:Nat)] 27)):=FX.out.trans fa (fun _ q=>q.elim);have vz:=own_keep HV.out fz (fun b q e=>e.elim (fun e=>(HNV.out b q).1 e) (fun e=>(HW.out.2.2 b e).2.2 q));refine appSB (base:=base) EIq rfl (.tmp 37) (.tmp 39) rfl (by rfl) (by rfl) (Nat.le_trans hb fz.size) vz (SlC.ofOwn (own_new (w:=w3.drew) (w0:=w3.drew) (Nat.le_refl _) #[.int .u64 (b:Nat)] 27 1 1 _ rfl rfl (by unfold maxLen;omega)) (by intro u hu;simp at hu;subst hu;rfl)) (by unfold maxLen;simp) (by simp) ?_;intro v2 w4 hown2 hf2 hob2
   have hpb4:w4.cell? ⟨pb,0,none⟩=some (.map (some mb)):=by
    have z:=(HX.out.fr fa id).fr hf2 (fun e=>(HNV.out _ e).1 rfl);exact z.cell (i:=0) (by omega)
   refine hK.out _ _ (by exact hpb4) (fun hS=>?_);clear hK K
   try simp only[Act.put,List.setIfInBounds_toArray,List.set_cons_zero,List.set_cons_succ]
   refine wpAnyH_done (by kernel_rfl) ?_ _
   show wpList _ _ _ _ _ _
   have MZ:=Hd ((HM.out.fr fz (fun e=>e.elim (fun e=>HN1.out e.symm) (fun e=>(HW.out.2.2 _ e).2.1 rfl))).fr hf2 (fun e=>(HNV.out _ e).2 rfl));have XZ:=Hd ((HX.out.fr fa id).fr hf2 (fun e=>(HNV.out _ e).1 rfl));have OZ:=Hd (own_keep (own_keep OX.out.1 fa (fun _ _ q=>q)) hf2 (fun b q e=>(OX.out.2 b q).2.2 e));have VZ:=Hd hown2
   have BZ:Hid (∀b,v2.ownBlock=some b->¬b=pb∧¬b=mb∧¬(Value.slice a8 (k+1) c8).ownBlock=some b):=fun b q=>by
    rcases hob2 b q with z|z
    .exact⟨(HNV.out b z).1,(HNV.out b z).2,fun e=>(OX.out.2 b e).2.2 z⟩
    .have e1:=HX.out.lt
     have e2:=HM.out.lt;have e3:=FX.out.size;have z:_<=b:=z;rw[show∀W:World,W.drew.heap.size=W.heap.size from fun _=>rfl,World.size_alloc]at z;refine⟨by omega,by omega,fun e=>?_⟩;have:=(World.ownsRow.lt OX.out.1 b e).2;omega
   have FZ:Hid (Fr (fun i=>base<=i) w w4):=(fz.mono (fun i q=>by
    rcases q with q|q
    .rw[q];exact hlo.1
    .exact ownBlock_own HW.out.1 i q)).trans hf2 (fun i q=>.inl (ownBlock_own HV.out i q))
   clear hf2 hown2 hob2 fa fz vz hpb4
   go_wp2_with(at_mapUpdate;go_must(refine wp_putV MVcr MZ.out (by omega) rfl _ _ _ rfl (by rfl) (by rfl) (by rfl) hwf ?_);intro w5 m1 m2;have HM1:=Hd m1;have HM2:=Hd m2;clear m1 m2)
   go_returns;have m1:=HM1.out;rw[oneM_put,oneM_at]at m1;refine⟨rfl,⟨v2,⟨⟨_,k+1,_,by have:=HKK.out;omega,XZ.out.fr HM2.out HN1.out,own_keep OZ.out HM2.out (fun b q e=>(OX.out.2 b q).2.1 e),fun u hu=>?_,fun b q=>⟨(OX.out.2 b q).1,(OX.out.2 b q).2.1,fun e=>(BZ.out b e).2.2 q⟩⟩,m1,own_keep VZ.out HM2.out (fun b q e=>(BZ.out b q).2.1 e),fun b q=>⟨(BZ.out b q).1,(BZ.out b q).2.1⟩,HN1.out,hlo⟩⟩,FZ.out.trans HM2.out (fun i q=>.inl (by show base<=i;rw[q];exact hlo.2))⟩;rcases List.mem_append.1 hu with q|q
   .exact HW.out.2.1 u q
   .simp at q;subst q;rfl
  .exact AllReadyH.nil
 .exact AllReadyH.nil
end
section
variable{w w':World}{base pb mb x kk a b:Nat}{v:Value}
theorem learn_write(h:OneP base pb mb x kk v [a] w)(hkk:kk<=1000)(hx:x<4294967296):Calls prog 31 #[.pointer (some ⟨pb,0,none⟩),.agg #[.int .i64 4,.int .u32 x,.int .u64 b],.agg #[.int .i64 0,.int .u32 0,.int .u64 0]] w fun e w'=>e=.returned (.tuple #[])∧(∃v,OneP base pb mb x (kk+1) v [a,b] w')∧Fr (fun i=>base<=i) w w':=by
 have HA:Hid (Fr NoF w ((w.alloc (.cells #[.int .i64 4,.int .u32 (x:Nat),.int .u64 (b:Nat)] 36)).alloc (.cells #[.int .i64 0,.int .u32 0,.int .u64 0] 48))):=((Fr.refl NoF w).alloc _).alloc _;have HC:=Hd (write_one (b:=b) (h.fr0 HA.out) hkk hx);clear h;go_enter func31,ntmps31
 go_wp2_with fail
 refine HC.out.mono ?_;rintro e w1⟨rfl,h1,f1⟩;have HK:=Hd (And.intro h1 (HA.out.none.trans f1 (fun i q=>.inl q)));clear h1 f1 HC HA;go_wp2;go_returns;exact⟨rfl,HK.out⟩
theorem learn_flush(h:OneP base pb mb x kk v [a,b] w)(hx:x<4294967296):Calls prog 31 #[.pointer (some ⟨pb,0,none⟩),.agg #[.int .i64 5,.int .u32 x,.int .u64 0],.agg #[.int .i64 0,.int .u32 0,.int .u64 0]] w fun e w'=>e=.returned (.tuple #[])∧(∃v,OneP base pb mb x kk v [b] w')∧Fr (fun i=>base<=i) w w':=by
 have HA:Hid (Fr NoF w ((w.alloc (.cells #[.int .i64 5,.int .u32 (x:Nat),.int .u64 0] 36)).alloc (.cells #[.int .i64 0,.int .u32 0,.int .u64 0] 48))):=((Fr.refl NoF w).alloc _).alloc _;have HC:=Hd (settle_one (h.fr0 HA.out) hx);clear h;go_enter func31,ntmps31
 go_wp2_with fail
 refine HC.out.mono ?_;rintro e w1⟨rfl,h1,f1⟩;have HK:=Hd (And.intro h1 (HA.out.none.trans f1 (fun i q=>.inl q)));clear h1 f1 HC HA;go_wp2;go_returns;exact⟨rfl,HK.out⟩
theorem box_c(w:World)(v:Value)(t:TypeId):(w.alloc (.cells #[v] t)).cell? ⟨w.heap.size,0,none⟩=some v∧w.heap.size<(w.alloc (.cells #[v] t)).heap.size∧Fr NoF w (w.alloc (.cells #[v] t)):=
 ⟨cell_one_new w v t 0 v rfl,by simp,(Fr.refl NoF w).alloc _⟩
theorem EIk:EI prog 63 67 2 32:=EI.mk' (z:=.agg #[.int .u32 0,.slice none 0 0]) underlying63 (by kernel_rfl) rfl (by decide)
theorem mk_claims(w:World):(Instr.makeSlice 63 (.int .i64 0) (.int .i64 1)).run prog w=.ok (.slice (some ⟨w.heap.size,0,none⟩) 0 1) (w.alloc (.cells (madeCells #[.int .u32 0,.slice none 0 0] 2) 67)):=by
 obtain⟨i0,hi,hz,hs,hb⟩:=info_parts' (P:=prog) (e:=67) (z:=.agg #[.int .u32 0,.slice none 0 0]) (s:=2) (b:=32) (by kernel_rfl);have:=run_make (P:=prog) w 63 67 i0 _ underlying63 hi hz .i64 .i64 (0:Int) (1:Int) (by omega) (by omega) (by rw[hb];omega) (by omega);rw[hs]at this;exact this
theorem claims_one(h:OneP base pb mb x kk v [a,b] w)(hx:x<4294967296):Calls prog 32 #[.pointer (some ⟨pb,0,none⟩)] w fun e w'=>∃u,e=.returned u∧w'.ownsRow w.heap.size 67 2 u 1 [.int .u32 (x:Nat),v]∧Fr NoF w w':=by
 have hwf:=u32wfc hx;obtain⟨wv,k,zs,hk,h1,h2,h3,h4⟩:=h.ex;have c0:Hid (∀W,Fr NoF w W->W.cell? ⟨pb,0,none⟩=some (.map (some mb))∧pb<W.heap.size):=fun W f=>⟨(h1.fr f id).cell (i:=0) (by omega),(h1.fr f id).lt⟩
 obtain⟨va,vc,rfl,_,_⟩:=(SlC.ofOwn h.vl (u64C_one _)).shape;simp only[List.length_cons,List.length_nil,Nat.zero_add,Nat.reduceAdd]at*;have c00:=c0.out w (Fr.refl _ _);obtain⟨c01,c02⟩:=c00;have hmp:=h.mp;obtain⟨D,hown,hs,hsv⟩:=h.mp;have HM:=Hd h.mp;have HMK:=mk_claims;clear h h1 h2 h3 h4;have hD:=hs;go_enter func32,ntmps32
 go_wp2_with(at_len;refine wpList_len_own _ rfl _ 103 rfl 34 65 underlying103 _ mb 1 D rfl hown ?_;rw[hD];have hmk:=HMK w)
 have fA:Fr NoF w (w.alloc (.cells (madeCells #[.int .u32 0,.slice none 0 0] 2) 67)):=(Fr.refl NoF w).alloc _
 have OA:Hid ((w.alloc (.cells (madeCells #[.int .u32 0,.slice none 0 0] 2) 67)).ownsRow w.heap.size 67 2 (.slice (some ⟨w.heap.size,0,none⟩) 0 1) 0 []):=
  ⟨rfl,.inr ⟨w.heap.size,1,_,rfl,Nat.le_refl _,heap_alloc_new _ _ _ rfl,Nat.zero_le _,by unfold maxLen;omega,by simp[size_madeCells],by simp⟩⟩
 have FA:=Hd fA;have FA0:Hid (w.heap.size<(w.alloc (.cells (madeCells #[.int .u32 0,.slice none 0 0] 2) 67)).heap.size):=by show w.heap.size<_;simp
 clear hown hmp hs hD;generalize w.alloc (.cells (madeCells #[.int .u32 0,.slice none 0 0] 2) 67)=w1 at*;obtain⟨c1,l1⟩:=c0.out w1 fA;clear fA hmk c01 c02
 go_wp2_with fail
 refine(keys_calls mb w1).mono ?_;rintro e w2⟨rfl,rfl⟩;have f2:Fr NoF w1 (w1.alloc (.cells #[.map (some mb)] 103)):=(Fr.refl NoF w1).alloc _;obtain⟨b1,b2,b3⟩:=box_c w1 (.map (some mb)) 103;have HS:=Hd (sorted_one (w:=w1.alloc (.cells #[.map (some mb)] 103)) (Bs:=w1.heap.size) (b:=mb) (x:=x) (v:=.slice va 2 vc) b2 b1 (HM.out.fr (FA.out.trans b3 (fun _ q=>.inl q)) id));have F2:=Hd (FA.out.trans b3 (fun _ q=>.inl q));have O2:=Hd (own_keep OA.out b3 (fun _ _ q=>q));clear f2 b1 b2 b3 c1 l1 FA OA
 go_wp2_with fail
 refine HS.out.mono ?_;rintro e w3⟨u,rfl,hrow,hf⟩;have U3:=Hd (SlC.ofOwn hrow (by intro y hy;simp at hy;subst hy;rfl));have F3:=Hd (F2.out.trans hf (fun _ q=>.inl q));have O3:=Hd (own_keep O2.out hf (fun _ _ q=>q));obtain⟨ub,uo,uc,rfl,r1,r2,ul,ug⟩:=U3.out.at (k:=0) (by omega) (by omega);have ug:=ug 0 _ rfl
 have hub:¬ub=w.heap.size:=fun e=>by
  have:=ownBlock_own hrow ub rfl;have:=F2.out.size;have:=FA0.out;simp only[World.size_alloc]at*;omega
 clear hrow hf HS F2 O2
 go_wp2_with fail
 obtain⟨wo,ewo⟩:∃y,y=w3:=⟨w3,rfl⟩;subst ewo
 go_loopw [19,3] (fun i o wr=>Fr (fun j=>j=w.heap.size) wo wr∧((i=.int .i64 0∧o=.slice (some ⟨w.heap.size,0,none⟩) 0 1∧wr.ownsRow w.heap.size 67 2 (.slice (some ⟨w.heap.size,0,none⟩) 0 1) 0 [])∨(i=.int .i64 1∧wr.ownsRow w.heap.size 67 2 o 1 [.int .u32 (x:Nat),.slice va 2 vc]))) (fun i _ _=>1-(intOf i).toNat)
 case atStart=>exact⟨Fr.refl _ _,.inl ⟨rfl,rfl,O3.out⟩⟩
 case round=>
  obtain⟨hf,hst⟩:=hrel;have HFQ:=Hd (F3.out.trans hf (fun i q=>.inr (by rw[q];exact Nat.le_refl _)));rcases hst with⟨rfl,rfl,how⟩|⟨rfl,ho⟩
  .have y0:wr.cell? ⟨ub,uo,none⟩=some (.int .u32 (x:Nat)):=by rw[hf.cell (p:=⟨ub,uo,none⟩) ul hub];exact ug
   have yl:ub<wr.heap.size:=Nat.lt_of_lt_of_le ul hf.size;obtain⟨c1,l1⟩:=c0.out wr HFQ.out;have hlk:=(HM.out.fr HFQ.out id).look_run MVcr hwf;rw[oneM_at]at hlk;simp only[Option.getD_some]at hlk;have OW:=Hd how;have HF:=Hd hf;clear hf ug ul how hub
   go_wp2_with(at_builtin;go_must(refine appLB (base:=w.heap.size) EIk rfl _ _ rfl (by rfl) (by rfl) (by have:=HFQ.out.size;simp only[World.size_alloc];omega) (own_keep OW.out ((Fr.refl NoF _).alloc _) (fun _ _ q=>q)) (SlC.ofOwn (own_new (w0:=wr) (Nat.le_refl _) #[.int .u32 (x:Nat),.slice va 2 vc] 67 2 1 _ rfl rfl (by unfold maxLen;omega)) (by intro y hy;simp at hy;rcases hy with rfl|rfl;rfl;rfl)) (by unfold maxLen;omega) (by omega) ?_);intro v' w4 hown' hf' hob';have HO':=Hd hown';have HF':=Hd (HF.out.trans (((Fr.refl NoF wr).alloc (.cells #[.int .u32 (x:Nat),.slice va 2 vc] 67)).none.trans hf' (F:=fun j=>j=w.heap.size) (fun i q=>.inl (by simp[Value.ownBlock]at q;exact q.symm))) (fun _ q=>.inl q));clear hown' hf' hob')
   go_roundw
   case rel=>exact⟨HF'.out,.inr ⟨by first|rfl|go_num,HO'.out⟩⟩
   case measure=>simp[intOf]
  .clear hf
   go_wp2;go_returns;exact⟨_,rfl,ho,HFQ.out⟩
end
def lsK:Nat->Int:=fun j=>match j with|0=>0|1=>4|2=>5|_=>4
def lsI:Nat->Nat:=fun j=>match j with|0=>0|_=>1
def lsV:Nat->Nat:=fun j=>match j with|1=>5|3=>6|_=>0
def lsA:Nat->Nat:=fun j=>match j with|0=>1|_=>0
def LSc(base pb mb:Nat)(j:Nat)(w:World):Prop:=match j with
 |0=>NoP base pb mb w
 |1=>∃v,OneP base pb mb 1 0 v [0] w
 |2=>∃v,OneP base pb mb 1 1 v [0,5] w
 |3=>∃v,OneP base pb mb 1 1 v [5] w
 |_=>∃v,OneP base pb mb 1 2 v [5,6] w
section
variable{w w':World}{base pb mb:Nat}
theorem LSc.fr0{j:Nat}(h:LSc base pb mb j w)(f:Fr NoF w w'):LSc base pb mb j w':=by
 unfold LSc at h⊢
 split at h
 .exact NoP.fr0 h f
 all_goals exact⟨h.choose,h.choose_spec.fr0 f⟩
theorem lsc_step{j:Nat}(hj:j<4)(h:LSc base pb mb j w):Calls prog 31 #[.pointer (some ⟨pb,0,none⟩),.agg #[.int .i64 (lsK j),.int .u32 (lsI j:Nat),.int .u64 (lsV j:Nat)],.agg #[.int .i64 0,.int .u32 (lsA j:Nat),.int .u64 0]] w fun e w'=>e=.returned (.tuple #[])∧LSc base pb mb (j+1) w'∧Fr (fun i=>base<=i) w w':=by
 rcases(by omega:j=0∨j=1∨j=2∨j=3)with rfl|rfl|rfl|rfl
 .exact learn_new (x:=1) h (by omega)
 .obtain⟨v,h⟩:=h
  exact learn_write (b:=5) h (by omega) (by decide)
 .obtain⟨v,h⟩:=h
  exact learn_flush h (by decide)
 .obtain⟨v,h⟩:=h
  exact learn_write (b:=6) h (by omega) (by decide)
theorem claims_four{ob ab:Nat}(lo:ob<w.heap.size∧ab<w.heap.size)(hc:∀j,j<4->w.cell? ⟨ob,j*3,none⟩=some (.int .i64 (lsK j))∧w.cell? ⟨ob,j*3+1,none⟩=some (.int .u32 (lsI j:Nat))∧w.cell? ⟨ob,j*3+2,none⟩=some (.int .u64 (lsV j:Nat))∧w.cell? ⟨ab,j*3,none⟩=some (.int .i64 0)∧w.cell? ⟨ab,j*3+1,none⟩=some (.int .u32 (lsA j:Nat))∧w.cell? ⟨ab,j*3+2,none⟩=some (.int .u64 0)):
  Calls prog 16 #[.slice (some ⟨ob,0,none⟩) 4 4,.slice (some ⟨ab,0,none⟩) 4 4] w fun e w'=>∃u v b1 b2,e=.returned u∧w'.ownsRow b1 67 2 u 1 [.int .u32 1,v]∧w'.ownsRow b2 27 1 v 2 [.int .u64 5,.int .u64 6]∧Fr NoF w w':=by
 have HC:Hid (∀W,Fr (fun i=>w.heap.size<=i) w W->∀j,j<4->W.cell? ⟨ob,j*3,none⟩=some (.int .i64 (lsK j))∧W.cell? ⟨ob,j*3+1,none⟩=some (.int .u32 (lsI j:Nat))∧W.cell? ⟨ob,j*3+2,none⟩=some (.int .u64 (lsV j:Nat))∧W.cell? ⟨ab,j*3,none⟩=some (.int .i64 0)∧W.cell? ⟨ab,j*3+1,none⟩=some (.int .u32 (lsA j:Nat))∧W.cell? ⟨ab,j*3+2,none⟩=some (.int .u64 0)):=fun W f j hj=>by
  obtain⟨k1,k2,k3,k4,k5,k6⟩:=hc j hj;have n1:¬w.heap.size<=ob:=by omega
  have n2:¬w.heap.size<=ab:=by omega
  exact⟨(f.cell (p:=⟨ob,_,none⟩) lo.1 n1).trans k1,(f.cell (p:=⟨ob,_,none⟩) lo.1 n1).trans k2,(f.cell (p:=⟨ob,_,none⟩) lo.1 n1).trans k3,(f.cell (p:=⟨ab,_,none⟩) lo.2 n2).trans k4,(f.cell (p:=⟨ab,_,none⟩) lo.2 n2).trans k5,(f.cell (p:=⟨ab,_,none⟩) lo.2 n2).trans k6⟩
 have HL:=Hd lo;have hmm:=@run_makeMap prog;clear hc lo;go_enter func16,ntmps16
 go_wp2_with fail
 have H0:Hid (LSc w.heap.size (w.heap.size+1) w.heap.size 0 ((w.alloc (.map #[] 0)).alloc (.cells #[.map (some w.heap.size),.slice none 0 0] 105))):=by
  have e1:(w.alloc (.map #[] 0)).heap.size=w.heap.size+1:=by simp
  refine⟨?_,(MpV.made prog _ _ _ w).alloc _,by omega,by omega,Nat.le_refl _⟩
  exact Blk.new _ _ _ 2 _ _ e1.symm rfl (fun i hi=>by
   match i,hi with
   |0,_=>rfl
   |1,_=>rfl)
 have F0:Hid (Fr (fun i=>w.heap.size<=i) w ((w.alloc (.map #[] 0)).alloc (.cells #[.map (some w.heap.size),.slice none 0 0] 105))):=(((Fr.refl NoF w).alloc _).alloc _).none;generalize(w.alloc (.map #[] 0)).alloc (.cells #[.map (some w.heap.size),.slice none 0 0] 105)=w1 at*;clear hmm
 go_wp2_with fail
 go_loopw [14] (fun i wr=>∃j:Nat,j<=4∧i=.int .i64 j∧LSc w.heap.size (w.heap.size+1) w.heap.size j wr∧Fr (fun i=>w.heap.size<=i) w wr) (fun i _=>4-(intOf i).toNat)
 case atStart=>exact⟨0,by omega,rfl,H0.out,F0.out⟩
 case round=>
  obtain⟨j,hj,rfl,hs,hf⟩:=hrel;have HS:=Hd hs;have HF:=Hd hf;clear hs H0 F0;by_cases hlt:j<4
  .have HCJ:Hid (∀W,Fr NoF wr W->_):=Hd (fun W (f:Fr NoF wr W)=>HC.out W (hf.trans f (fun _ q=>q.elim)) j hlt)
   have HCW:Hid (∀W,Fr (fun i=>w.heap.size<=i) w W->_):=Hd (fun W (f:Fr (fun i=>w.heap.size<=i) w W)=>HC.out W f j hlt);obtain⟨k1,k2,k3,k4,k5,k6⟩:=HC.out wr hf j hlt;have lo1:=Nat.lt_of_lt_of_le HL.out.1 hf.size;have lo2:=Nat.lt_of_lt_of_le HL.out.2 hf.size;have HST:Hid (∀W,Fr NoF wr W->_):=Hd (fun W (f:Fr NoF wr W)=>lsc_step hlt (HS.out.fr0 f));generalize lsK j=zk at*;generalize lsI j=zi at*;generalize lsV j=zv at*;generalize lsA j=za at*;clear hf HC
   go_wp2_with fail
   go_region_held3(fun w'=>w'.cell? ⟨ob,j*3,none⟩=some (.int .i64 zk)∧w'.cell? ⟨ob,j*3+1,none⟩=some (.int .u32 (zi:Nat))∧w'.cell? ⟨ob,j*3+2,none⟩=some (.int .u64 (zv:Nat))∧w'.cell? ⟨ab,j*3,none⟩=some (.int .i64 0)∧w'.cell? ⟨ab,j*3+1,none⟩=some (.int .u32 (za:Nat))∧w'.cell? ⟨ab,j*3+2,none⟩=some (.int .u64 0))
    (first|exact HCW.out _ F4.out|exact HCJ.out _ (by repeat(first|exact Fr.refl NoF _|apply Fr.drew|apply Fr.drewN)))
    (first
     |(go_at_call 31;(with_reducible refine(HST.out _ (by repeat(first|exact Fr.refl NoF _|apply Fr.drew|apply Fr.drewN))).mono ?_);rintro e w4⟨rfl,s4,f4⟩;have S4:=Hd s4;have F4:Hid (Fr (fun i=>w.heap.size<=i) w w4):=(Fr.trans (F:=fun i=>w.heap.size<=i) HF.out (Fr.none (by repeat(first|exact Fr.refl NoF _|apply Fr.drew|apply Fr.drewN))) (fun _ q=>.inl q)).trans f4 (fun _ q=>.inl q);clear s4 f4))
   all_goals
    go_wp2_with fail
    go_roundw
    case rel=>exact⟨j+1,by omega,by go_num,S4.out,F4.out⟩
    case measure=>simp[intOf];omega
  .obtain rfl:j=4:=by omega
   obtain⟨v,h4⟩:=HS.out;have HX:=Hd (claims_one h4 (by decide));have HV:=Hd h4.vl;clear h4 hf HC
   go_wp2_with fail
   refine HX.out.mono ?_;rintro e w5⟨u,rfl,hu,f5⟩;have HK:Hid (∃u' v b1 b2,Ending.returned u=.returned u'∧w5.ownsRow b1 67 2 u' 1 [.int .u32 1,v]∧w5.ownsRow b2 27 1 v 2 [.int .u64 5,.int .u64 6]∧Fr NoF w w5):=⟨u,v,_,_,rfl,hu,own_keep HV.out f5 (fun _ _ q=>q),HF.out.trans f5 (fun _ q=>q.elim)|>fun z=>⟨z.os,z.tape,z.output,z.size,fun k hk _=>z.block k hk (by show¬w.heap.size<=k;omega)⟩⟩;clear hu f5 HX HV;go_wp2;go_returns;obtain⟨u',v,b1,b2,q1,q2⟩:=HK.out;exact⟨u',v,b1,b2,q1,q2⟩
def polN:Nat->Value:=fun i=>match i with|0=>.string ⟨#[108,114,117]⟩|1=>.string ⟨#[108,114,117,107]⟩|2=>.string ⟨#[116,119,111,113]⟩|3=>.string ⟨#[97,114,99]⟩|_=>.string ⟨#[112,114,111]⟩
theorem policies_calls(w:World):Calls prog 5 #[] w fun e w'=>e=.returned (.slice (some ⟨w.heap.size,0,none⟩) 5 5)∧Blk w' w.heap.size 5 polN∧Fr NoF w w':=by
 have HB:Hid (Blk (w.alloc (.cells #[.string ⟨#[108,114,117]⟩,.string ⟨#[108,114,117,107]⟩,.string ⟨#[116,119,111,113]⟩,.string ⟨#[97,114,99]⟩,.string ⟨#[112,114,111]⟩] 9)) w.heap.size 5 polN):=Blk.new _ _ _ 5 _ _ rfl rfl (fun i hi=>by
  match i,hi with
  |0,_|1,_|2,_|3,_|4,_=>rfl)
 have HF:Hid (Fr NoF w (w.alloc (.cells #[.string ⟨#[108,114,117]⟩,.string ⟨#[108,114,117,107]⟩,.string ⟨#[116,119,111,113]⟩,.string ⟨#[97,114,99]⟩,.string ⟨#[112,114,111]⟩] 9))):=(Fr.refl NoF w).alloc _;go_enter func5,ntmps5;go_wp2;go_returns;exact⟨rfl,HB.out,HF.out⟩
theorem toldC_calls(w:World):Calls prog 6 #[] w fun e w'=>e=.returned (.bool true)∧Fr NoF w w':=by
 have HC:=Hd (claims_four (ob:=w.heap.size) (ab:=w.heap.size+1) (w:=((w.alloc (.cells #[.int .i64 0,.int .u32 0,.int .u64 0,.int .i64 4,.int .u32 1,.int .u64 5,.int .i64 5,.int .u32 1,.int .u64 0,.int .i64 4,.int .u32 1,.int .u64 6] 36)).alloc (.cells #[.int .i64 0,.int .u32 1,.int .u64 0,.int .i64 0,.int .u32 0,.int .u64 0,.int .i64 0,.int .u32 0,.int .u64 0,.int .i64 0,.int .u32 0,.int .u64 0] 48))) (by simp only[World.size_alloc];omega) (fun j hj=>by
  have b1:=(Blk.new w #[.int .i64 0,.int .u32 0,.int .u64 0,.int .i64 4,.int .u32 1,.int .u64 5,.int .i64 5,.int .u32 1,.int .u64 0,.int .i64 4,.int .u32 1,.int .u64 6] 36 12 (fun i=>if i%3=0 then .int .i64 (lsK (i/3))else if i%3=1 then .int .u32 (lsI (i/3):Nat)else .int .u64 (lsV (i/3):Nat)) w.heap.size rfl rfl (fun i hi=>by
   match i,hi with
   |0,_|1,_|2,_|3,_|4,_|5,_|6,_|7,_|8,_|9,_|10,_|11,_=>rfl)).alloc (.cells #[.int .i64 0,.int .u32 1,.int .u64 0,.int .i64 0,.int .u32 0,.int .u64 0,.int .i64 0,.int .u32 0,.int .u64 0,.int .i64 0,.int .u32 0,.int .u64 0] 48)
  have b2:=Blk.new (w.alloc (.cells #[.int .i64 0,.int .u32 0,.int .u64 0,.int .i64 4,.int .u32 1,.int .u64 5,.int .i64 5,.int .u32 1,.int .u64 0,.int .i64 4,.int .u32 1,.int .u64 6] 36)) #[.int .i64 0,.int .u32 1,.int .u64 0,.int .i64 0,.int .u32 0,.int .u64 0,.int .i64 0,.int .u32 0,.int .u64 0,.int .i64 0,.int .u32 0,.int .u64 0] 48 12 (fun i=>if i%3=0 then .int .i64 0 else if i%3=1 then .int .u32 (lsA (i/3):Nat)else .int .u64 0) (w.heap.size+1) (by simp) rfl (fun i hi=>by
   match i,hi with
   |0,_|1,_|2,_|3,_|4,_|5,_|6,_|7,_|8,_|9,_|10,_|11,_=>rfl)
  rcases(by omega:j=0∨j=1∨j=2∨j=3)with rfl|rfl|rfl|rfl
  all_goals exact⟨b1.cell (by omega),b1.cell (by omega),b1.cell (by omega),b2.cell (by omega),b2.cell (by omega),b2.cell (by omega)⟩))
 have F0:Hid (Fr NoF w ((w.alloc (.cells #[.int .i64 0,.int .u32 0,.int .u64 0,.int .i64 4,.int .u32 1,.int .u64 5,.int .i64 5,.int .u32 1,.int .u64 0,.int .i64 4,.int .u32 1,.int .u64 6] 36)).alloc (.cells #[.int .i64 0,.int .u32 1,.int .u64 0,.int .i64 0,.int .u32 0,.int .u64 0,.int .i64 0,.int .u32 0,.int .u64 0,.int .i64 0,.int .u32 0,.int .u64 0] 48))):=((Fr.refl NoF w).alloc _).alloc _;go_enter func6,ntmps6
 go_wp2_with fail
 refine HC.out.mono ?_;rintro e w1⟨u,v,b1,b2,rfl,hu,hv,f1⟩;have HU:=Hd (SlC.ofOwn hu (by intro y hy;simp at hy;rcases hy with rfl|rfl;rfl;obtain⟨va,vc,rfl,_,_⟩:=(SlC.ofOwn hv (by intro y hy;simp at hy;rcases hy with rfl|rfl<;>rfl)).shape;rfl));have HV:=Hd (SlC.ofOwn hv (by intro y hy;simp at hy;rcases hy with rfl|rfl<;>rfl));have F1:=Hd (F0.out.trans f1 (fun _ q=>.inl q));clear hu hv f1 HC F0
 go_wp2_with fail
 refine(policies_calls w1).mono ?_;rintro e w2⟨rfl,hp,f2⟩;have F2:=Hd (F1.out.trans f2 (fun _ q=>.inl q));obtain⟨ub,uo,uc,rfl,r1,r2,ul,ug⟩:=(HU.out.keep f2).at (k:=0) (by omega) (by omega);obtain⟨vb,vo,vc,rfl,r3,r4,vl,vg⟩:=(HV.out.keep f2).at (k:=0) (by omega) (by omega);have u0:=ug 0 _ rfl;have u1:=ug 1 _ rfl;have v0:=vg 0 _ rfl;have v1:=vg 1 _ rfl;have p4:=hp.cell (i:=4) (by omega);have pl:=hp.lt;simp only[polN,Nat.add_zero]at u0 u1 v0 v1 p4;clear ug vg hp f2 HU HV F1 r1 r2 r3 r4;go_wp2;go_returns;exact⟨rfl,F2.out⟩
end
end
end Go.Proofs.YtoenclhimbpfeaaGreatDoor
