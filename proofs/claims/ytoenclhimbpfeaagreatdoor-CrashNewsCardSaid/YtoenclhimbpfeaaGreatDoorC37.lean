/- Part 37. -/
import Derived.Test.YtoenclhimbpfeaaGreatDoorC36
namespace Go.Proofs.YtoenclhimbpfeaaGreatDoor
set_option linter.all false
set_option maxHeartbeats 16000000
set_option maxRecDepth 100000
section
open Go.Maps Go.Proofs.Tryz Go.RowKit
theorem pushed_up{α:Type}{lt:α->α->Bool}{a:Nat->α}{n:Nat}(t:α)(h:IsHeap lt a n):UpHeap lt (upd a n t) (n+1) n:=by
 refine⟨fun k h0 h1 h2=>?_,fun k h0 h1 h2 h3=>?_⟩
 .have hp:par k<n:=by unfold par;omega
  rw[upd_other _ _ h2,upd_other _ _ (by omega)];exact h k h0 (by omega)
 .exfalso;unfold par at h2;omega
section
variable{w w':World}{qb n:Nat}{a:Nat->Th}{lv:Value}{mo:Option Nat}{g:Int->Option Int}{F:Nat->Prop}{M:Th->Prop}
theorem qu_put_new(h:QS w qb M n F){t:Th}(hok:thOk t)(hn:n<900000)(hne:∀u,M u->¬u.x=t.x):Calls prog 198 #[.pointer (some ⟨qb,0,none⟩),.int .i64 t.x,.agg #[.int .i64 t.a,.int .i64 t.b]] w fun e w'=>e=.returned (.tuple #[])∧∃F',QS w' qb (fun u=>u=t∨M u) (n+1) F'∧Fr F w w'∧∀i,F' i->F i∨w.heap.size<=i:=by
 obtain⟨a,hr,hh,hM⟩:=h;have hna:∀k,k<n->¬(a k).x=t.x:=fun k hk=>hne (a k) ((hM _).2 ⟨k,hk,rfl⟩)
 have HP:Hid (∀W,Fr NoF w W->Calls prog 87 #[.iface 270 (.pointer (some ⟨qb,0,none⟩)),encT t] W fun e w'=>e=.returned (.tuple #[])∧∃F',QS w' qb (fun u=>u=t∨M u) (n+1) F'∧Fr F W w'∧(∀i,F' i->F i∨W.heap.size<=i)):=by
  intro W f;refine(heap_push (q_sys qb) ((q_sys qb).fr hr f (fun _ _ q=>q)) (t:=t) ⟨hn,hok,hna⟩).mono ?_;rintro e w'⟨he,F',hr',hf,hF'⟩;refine⟨he,F',⟨_,hr',UpHeap.up ltT_ord _ n (by omega) (pushed_up t hh),fun u=>?_⟩,hf,hF'⟩;rw[up_mem ltT u _ n (by omega)];constructor
  .rintro(rfl|q)
   .exact⟨n,by omega,by rw[upd_same]⟩
   .obtain⟨k,hk,rfl⟩:=(hM u).1 q
    exact⟨k,by omega,by rw[upd_other _ _ (by omega)]⟩
  .rintro⟨k,hk,rfl⟩
   by_cases e:k=n
   .subst e;rw[upd_same];exact .inl rfl
   .rw[upd_other _ _ e];exact .inr ((hM _).2 ⟨k,by omega,rfl⟩)
 have HLT:Hid (∀i,F i->i<w.heap.size):=(q_sys qb).bd hr;obtain⟨lv,mo,g,h,hF⟩:=hr;have c1:=h.c1;have lb:=h.hd.lt
 have HX:Hid (g t.x=none):=by
  cases e:g t.x with
  |none=>rfl
  |some k=>
   obtain⟨j,_,hj,q⟩:=(h.pl t.x k).1 e;exact(hna j hj q).elim
 have HW:Hid (i64 t.x):=hok.1;have HQ:=Hd h;obtain⟨tx,ta,tb⟩:=t;unfold encT thV at HP
 have HBX:Hid (∀W,Fr NoF (w.alloc (.cells #[.int .i64 ta,.int .i64 tb] 265)) W->W.cell? ⟨w.heap.size,0,none⟩=some (.int .i64 ta)∧W.cell? ⟨w.heap.size,1,none⟩=some (.int .i64 tb)):=by
  intro W f
  have b1:Blk (w.alloc (.cells #[.int .i64 ta,.int .i64 tb] 265)) w.heap.size 2 (fun i=>if i=0 then .int .i64 ta else .int .i64 tb):=Blk.new w _ 265 2 _ _ rfl rfl (fun i hi=>by
   match i,hi with
   |0,_=>rfl
   |1,_=>rfl)
  have c1:=b1.fr f (fun q=>q);exact⟨c1.cell (i:=0) (by omega),c1.cell (i:=1) (by omega)⟩
 have HBP:Hid (∀W W',Fr NoF (w.alloc (.cells #[.int .i64 ta,.int .i64 tb] 265)) W->Fr F W W'->W'.cell? ⟨w.heap.size,0,none⟩=some (.int .i64 ta)∧W'.cell? ⟨w.heap.size,1,none⟩=some (.int .i64 tb)):=by
  intro W W' f f';obtain⟨q1,q2⟩:=HBX.out W f;have hl:w.heap.size<W.heap.size:=by have:=f.size;simp at this;omega
  have hnF:¬F w.heap.size:=fun q=>by have:=HLT.out _ q;omega
  rw[f'.cell (p:=⟨w.heap.size,0,none⟩) hl hnF,f'.cell (p:=⟨w.heap.size,1,none⟩) hl hnF];exact⟨q1,q2⟩
 have fA:Fr NoF w (w.alloc (.cells #[.int .i64 ta,.int .i64 tb] 265)):=(Fr.refl NoF w).alloc _;have HFA:=Hd fA;have HSZ:Hid (∀W',Fr NoF w W'->∀i,W'.heap.size<=i->w.heap.size<=i):=fun W' f i q=>Nat.le_trans f.size q
 have lt0:w.heap.size<(w.alloc (.cells #[.int .i64 ta,.int .i64 tb] 265)).heap.size:=by simp
 cases mo with
 |none=>
  have hln:∀W:World,(Instr.lookup 185 (.map none) (.int .i64 tx) true).run prog W=.ok (.tuple #[.int .i64 0,.bool false]) W:=by
   intro W;have:=Maps.look_nil (P:=prog) (w:=W) true (int_keyed MIq.uk) MIq.ut (MIq.z W) (keyOf_int_mk MIq.uk HW.out);exact this
  clear h hF hh hM hne hna hok fA;go_enter func198,ntmps198;go_wp2
  go_region_held3(fun w'=>w'.cell? ⟨w.heap.size,0,none⟩=some (.int .i64 ta)∧w'.cell? ⟨w.heap.size,1,none⟩=some (.int .i64 tb))
   (first|exact H9.out|exact HBX.out _ (by repeat(first|exact Fr.refl NoF _|apply Fr.drew|apply Fr.drewN)))
   (first
    |(go_at_call 87;(with_reducible refine(HP.out _ (by repeat(first|exact HFA.out|apply Fr.drew|apply Fr.drewN))).mono ?_);rintro e w9⟨rfl,F9,hq9,hf9,hF9⟩;have H9:=Hd (HBP.out _ w9 (by repeat(first|exact Fr.refl NoF _|apply Fr.drew|apply Fr.drewN)) hf9);have HR9:Hid (∃F',QS w9 qb (fun u=>u=⟨tx,ta,tb⟩∨M u) (n+1) F'∧Fr F w w9∧∀i,F' i->F i∨w.heap.size<=i):=⟨F9,hq9,((HFA.out.drew).mono (fun _ q=>q.elim)).trans hf9 (fun i q=>.inl q),fun i q=>(hF9 i q).imp id (HSZ.out _ (by repeat(first|exact HFA.out|apply Fr.drew|apply Fr.drewN)) i)⟩;clear hq9 hf9 hF9))
  all_goals
   go_wp2;go_returns;exact⟨rfl,HR9.out⟩
 |some mb=>
  have HM:Hid (∀W,Fr NoF w W->MpN prog 3 3 .i64 .i64 W mb n g):=fun W f=>MpN.fr h.mp f (fun q=>q)
  clear h hF hh hM hne hna hok fA;go_enter func198,ntmps198
  go_wp2_with(at_lookup;go_must(refine wp_lookN_none MIq (HM.out _ HFA.out) HX.out rfl _ _ rfl (by rfl) (by rfl) HW.out ?_))
  go_region_held3(fun w'=>w'.cell? ⟨w.heap.size,0,none⟩=some (.int .i64 ta)∧w'.cell? ⟨w.heap.size,1,none⟩=some (.int .i64 tb))
   (first|exact H9.out|exact HBX.out _ (by repeat(first|exact Fr.refl NoF _|apply Fr.drew|apply Fr.drewN)))
   (first
    |(go_at_call 87;(with_reducible refine(HP.out _ (by repeat(first|exact HFA.out|apply Fr.drew|apply Fr.drewN))).mono ?_);rintro e w9⟨rfl,F9,hq9,hf9,hF9⟩;have H9:=Hd (HBP.out _ w9 (by repeat(first|exact Fr.refl NoF _|apply Fr.drew|apply Fr.drewN)) hf9);have HR9:Hid (∃F',QS w9 qb (fun u=>u=⟨tx,ta,tb⟩∨M u) (n+1) F'∧Fr F w w9∧∀i,F' i->F i∨w.heap.size<=i):=⟨F9,hq9,((HFA.out.drew).mono (fun _ q=>q.elim)).trans hf9 (fun i q=>.inl q),fun i q=>(hF9 i q).imp id (HSZ.out _ (by repeat(first|exact HFA.out|apply Fr.drew|apply Fr.drewN)) i)⟩;clear hq9 hf9 hF9))
  all_goals
   go_wp2;go_returns;exact⟨rfl,HR9.out⟩
theorem QC.keyed{gb cap:Nat}(h:QC w qb a n (.slice (some ⟨gb,0,none⟩) n cap) mo g){k:Nat}(hk:k<n){t:Th}(hx:(a k).x=t.x)(hok:thOk t){w1:World}(hw:w1=(w.setCell ⟨gb,k*3+1,none⟩ (.int .i64 t.a)).setCell ⟨gb,k*3+2,none⟩ (.int .i64 t.b)):
  QC w1 qb (upd a k t) n (.slice (some ⟨gb,0,none⟩) n cap) mo g∧Fr (fun i=>i=gb) w w1:=by
 have fr:Fr (fun k=>k=gb) w w1:=by
  rw[hw];exact((Fr.refl (fun k=>k=gb) w).setCell (p:=⟨gb,k*3+1,none⟩) (.inl rfl) _).setCell (p:=⟨gb,k*3+2,none⟩) (.inl rfl) _
 have s1:=((h.li.set (i:=k*3+1) (by omega) (.int .i64 t.a)).set (i:=k*3+2) (by omega) (.int .i64 t.b));rw[<-hw]at s1
 have e1:∀i,i<n*3->upd (upd (thF a) (k*3+1) (.int .i64 t.a)) (k*3+2) (.int .i64 t.b) i=thF (upd a k t) i:=by
  intro i _;rw[<-thF_set]
  have e2:upd (thF a) (k*3) (.int .i64 t.x)=thF a:=by
   funext j
   unfold upd;split
   .rename_i q;rw[q,thF_0,hx]
   .rfl
  rw[e2]
 obtain⟨k1,k2⟩:=h.n1 gb rfl;refine⟨⟨h.hd.fr fr (fun q=>k1 q.symm),s1.congr e1,h.mp.fr fr (fun b q e=>k2 (by rw[q,e])),fun x j=>?_,fun j hj=>?_,h.n1,h.n2,h.sm⟩,fr⟩
 .rw[h.pl x j]
  constructor
  .rintro⟨m,rfl,hm,q⟩
   refine⟨m,rfl,hm,?_⟩;by_cases e:m=k
   .subst e;rw[upd_same,<-hx];exact q
   .rw[upd_other _ _ e];exact q
  .rintro⟨m,rfl,hm,q⟩
   refine⟨m,rfl,hm,?_⟩;by_cases e:m=k
   .subst e;rw[upd_same,<-hx]at q;exact q
   .rw[upd_other _ _ e]at q;exact q
 .by_cases e:j=k
  .subst e;rw[upd_same];exact hok
  .rw[upd_other _ _ e];exact h.ok j hj
theorem qu_put_old(h:QS w qb M n F){t:Th}(hok:thOk t)(hex:∃u,M u∧u.x=t.x):Calls prog 198 #[.pointer (some ⟨qb,0,none⟩),.int .i64 t.x,.agg #[.int .i64 t.a,.int .i64 t.b]] w fun e w'=>e=.returned (.tuple #[])∧QS w' qb (fun u=>u=t∨(M u∧¬u.x=t.x)) n F∧Fr F w w':=by
 obtain⟨a,hr,hh,hM⟩:=h
 obtain⟨k,hk,hkx⟩:∃k,k<n∧(a k).x=t.x:=by
  obtain⟨u,hu,e⟩:=hex;obtain⟨k,hk,rfl⟩:=(hM u).1 hu;exact⟨k,hk,e⟩
 obtain⟨lv,mo,g,h,hF⟩:=hr;have hn:=h.sm;have c0:=h.c0;have c1:=h.c1;have lb:=h.hd.lt;have hinj:=h.inj;obtain⟨gb,cap,rfl,h1,h2,h3,h4,i0,i1,i2⟩:=h.el hk;obtain⟨k1,k2⟩:=h.n1 gb rfl
 cases mo with
 |none=>have:=h.mp.1;omega
 |some mb=>
  have HX:Hid (g t.x=some (k:Int)):=by rw[<-hkx];exact(h.pl (a k).x (k:Int)).2 ⟨k,rfl,hk,rfl⟩
  have HW:Hid (i64 t.x):=hok.1;have HM:Hid (∀W,Fr NoF w W->MpN prog 3 3 .i64 .i64 W mb n g):=fun W f=>MpN.fr h.mp f (fun q=>q)
  have HFX:Hid (∀W w1,Fr NoF w W->w1=(W.setCell ⟨gb,k*3+1,none⟩ (.int .i64 t.a)).setCell ⟨gb,k*3+2,none⟩ (.int .i64 t.b)->∀W1,Fr NoF w1 W1->Calls prog 202 #[.iface 270 (.pointer (some ⟨qb,0,none⟩)),.int .i64 k] W1 fun e w'=>e=.returned (.tuple #[])∧QS w' qb (fun u=>u=t∨(M u∧¬u.x=t.x)) n F∧Fr F w w'):=by
   intro W w1 f hw W1 f1;obtain⟨hq,fq⟩:=(h.fr0 f).keyed hk hkx hok hw;have hr1:HRq qb W1 (upd a k t) n F:=(q_sys qb).fr ⟨_,_,_,hq,hF⟩ f1 (fun _ _ q=>q);refine(heap_fix (q_sys qb) hr1 hk).mono ?_;rintro e w'⟨he,hr',hf⟩;refine⟨he,⟨_,hr',fix_heap ltT_ord hk (gap_upd ltT_ord hh k t),fun u=>?_⟩,(((f.mono (fun _ q=>q.elim)).trans fq (fun i q=>.inl ((hF i).2 (.inr (.inl (by rw[q];rfl)))))).trans f1 (fun _ q=>q.elim)).trans hf (fun i q=>.inl q)⟩;rw[fix_mem hk u];constructor
   .rintro(rfl|⟨q,hne⟩)
    .exact⟨k,hk,by rw[upd_same]⟩
    .obtain⟨m,hm,rfl⟩:=(hM u).1 q
     refine⟨m,hm,?_⟩;rw[upd_other];rintro rfl;exact hne hkx
   .rintro⟨m,hm,rfl⟩
    by_cases e:m=k
    .subst e;rw[upd_same];exact .inl rfl
    .rw[upd_other _ _ e]
     refine .inr ⟨(hM _).2 ⟨m,hm,rfl⟩,fun q=>e ?_⟩;exact hinj m k hm hk (q.trans hkx.symm)
  obtain⟨tx,ta,tb⟩:=t;have fA:Fr NoF w (w.alloc (.cells #[.int .i64 ta,.int .i64 tb] 265)):=(Fr.refl NoF w).alloc _;have HFA:=Hd fA;have hkc:k<cap:=by omega
  clear h hF hh hM hex hok fA hkx hinj i0;generalize(a k).a=oa at*;generalize(a k).b=ob at*;go_enter func198,ntmps198
  go_wp2_with(at_lookup;go_must(refine wp_lookN_some MIq (HM.out _ HFA.out) HX.out rfl _ _ rfl (by rfl) (by rfl) HW.out ?_))
  go_region
  go_wp2_with fail
  refine(HFX.out w ((w.setCell ⟨gb,k*3+1,none⟩ (.int .i64 ta)).setCell ⟨gb,k*3+1+1,none⟩ (.int .i64 tb)) (Fr.refl _ _) rfl _ (((Fr.refl NoF _).alloc _).drew)).mono ?_;rintro e w2⟨rfl,h2⟩;have H2:=Hd h2;clear h2 HFX;go_wp2;go_returns;exact⟨rfl,H2.out⟩
theorem qu_drop_no(h:QS w qb M n F){x:Int}(hx:i64 x)(hne:∀u,M u->¬u.x=x):Calls prog 184 #[.pointer (some ⟨qb,0,none⟩),.int .i64 x] w fun e w'=>e=.returned (.bool false)∧w=w':=by
 obtain⟨a,⟨lv,mo,g,h,hF⟩,hh,hM⟩:=h;have HC:=Hd (qc_find_no h hx (fun k hk=>hne _ ((hM _).2 ⟨k,hk,rfl⟩)));clear h hF hh hM hne hx;go_enter func184,ntmps184
 go_wp2_with fail
 refine HC.out.mono ?_;rintro e w1⟨rfl,rfl⟩;go_wp2;go_returns;exact⟨rfl,rfl⟩
theorem qu_drop_yes(h:QS w qb M (n+1) F){x:Int}(hex:∃u,M u∧u.x=x):Calls prog 184 #[.pointer (some ⟨qb,0,none⟩),.int .i64 x] w fun e w'=>e=.returned (.bool true)∧QS w' qb (fun u=>M u∧¬u.x=x) n F∧Fr F w w':=by
 obtain⟨a,hr,hh,hM⟩:=h
 obtain⟨k,hk,hkx⟩:∃k,k<n+1∧(a k).x=x:=by
  obtain⟨u,hu,e⟩:=hex;obtain⟨k,hk,rfl⟩:=(hM u).1 hu;exact⟨k,hk,e⟩
 have HRM:Hid (Calls prog 196 #[.iface 270 (.pointer (some ⟨qb,0,none⟩)),.int .i64 k] w fun e w'=>e=.returned (encT (a k))∧QS w' qb (fun u=>M u∧¬u.x=x) n F∧Fr F w w'):=by
  refine(heap_remove (q_sys qb) hr (i:=k) (by omega)).mono ?_;rintro e w'⟨he,hr',hf⟩;obtain⟨lv,mo,g,h,hF⟩:=hr;refine⟨he,⟨_,hr',rem_heap ltT_ord (by omega) hh,fun u=>?_⟩,hf⟩;rw[rem_mem (f:=fun t:Th=>t.x) (by omega) h.inj u]
  show(M u∧¬u.x=x)↔_∧¬u.x=(a k).x
  rw[hM u,hkx]
 obtain⟨lv,mo,g,h,hF⟩:=hr;have HC:=qc_find_yes h hk;rw[hkx]at HC;have HC2:=Hd HC;have lb:=h.hd.lt;unfold encT at HRM;generalize thV (a k)=tv at*;clear h hF hh hM hex HC hkx;go_enter func184,ntmps184
 go_wp2_with fail
 refine HC2.out.mono ?_;rintro e w1⟨rfl,rfl⟩
 go_wp2_with fail
 refine HRM.out.mono ?_;rintro e w2⟨rfl,h2⟩;have H2:=Hd h2;clear h2 HRM;go_wp2;go_returns;exact⟨rfl,H2.out⟩
end
end
section
open Go.Maps Go.RowKit
def QN(w w':World)(qb:Nat)(M:Th->Prop)(n:Nat):Prop:=∃F,QS w' qb M n F∧(∀i,F i->w.heap.size<=i)∧Fr NoF w w'
section
variable{w w1 w':World}{qb n:Nat}{M:Th->Prop}
end
end
end Go.Proofs.YtoenclhimbpfeaaGreatDoor
