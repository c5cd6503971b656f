/- Part 30. -/
import Derived.Deep.RegionHeld3
import Derived.Test.YtpkbkhffglikhaaGreatDoorM03
import Derived.WideKeyEntry
import Derived.Test.YtpkbkhffglikhaaGreatDoorM04
namespace Go.Proofs.YtpkbkhffglikhaaGreatDoor
set_option linter.all false
set_option maxHeartbeats 16000000
set_option maxRecDepth 100000
section
open Go.Proofs.Tryz Go.RowKit
structure Th where
 x:Int
 a:Int
 b:Int
def cmpI(x y:Int):Int:=if x<y then-1 else if y<x then 1 else 0
def orI(p q r:Int):Int:=if p=0 then(if q=0 then r else q)else p
def cmpT(t u:Th):Int:=orI (cmpI t.a u.a) (cmpI t.b u.b) (cmpI t.x u.x)
def ltT(t u:Th):Bool:=decide (cmpT t u<0)
theorem ltT_iff(t u:Th):ltT t u=true↔(t.a<u.a\/(t.a=u.a/\(t.b<u.b\/(t.b=u.b/\t.x<u.x)))):=by
 unfold ltT cmpT orI cmpI;rw[decide_eq_true_eq];by_cases h1:t.a<u.a
 .simp[h1]
 .by_cases h2:u.a<t.a
  .simp[h1,h2];omega
  .have e1:t.a=u.a:=by omega
   by_cases h3:t.b<u.b
   .simp[e1,h3]
   .by_cases h4:u.b<t.b
    .simp[e1,h3,h4];omega
    .have e2:t.b=u.b:=by omega
     by_cases h5:t.x<u.x
     .simp[e1,e2,h5]
     .by_cases h6:u.x<t.x
      .simp[e1,e2,h5,h6]
      .simp[e1,e2,h5,h6]
theorem ltT_not(t u:Th):ltT t u=false↔¬(t.a<u.a\/(t.a=u.a/\(t.b<u.b\/(t.b=u.b/\t.x<u.x)))):=by
 rw[<-ltT_iff];simp
def i64(x:Int):Prop:=(Lit.int .i64 x).wf=true
section
variable{w w':World}
theorem nan64(z:Int)(w:World):Calls prog 251 #[.int .i64 z] w λe w'=>e=.returned (.bool false)/\w=w':=by
 go_enter func251,ntmps251;go_wp2;go_returns;exact⟨by simp,rfl⟩
theorem nanI(z:Int)(w:World):Calls prog 252 #[.int .i64 z] w λe w'=>e=.returned (.bool false)/\w=w':=by
 go_enter func252,ntmps252;go_wp2;go_returns;exact⟨by simp,rfl⟩
theorem cmp64(x y:Int)(w:World):Calls prog 249 #[.int .i64 x,.int .i64 y] w λe w'=>e=.returned (.int .i64 (cmpI x y))/\w=w':=by
 unfold cmpI;by_cases h1:x<y
 .rw[if_pos h1]
  go_enter func249,ntmps249
  go_wp2_with(go_at_call 251;refine(nan64 _ _).mono ?_;rintro e w'⟨rfl,rfl⟩)
  go_returns;exact⟨rfl,rfl⟩
 .rw[if_neg h1]
  have h1':y<=x:=by omega
  by_cases h2:y<x
  .rw[if_pos h2]
   go_enter func249,ntmps249
   go_wp2_with(go_at_call 251;refine(nan64 _ _).mono ?_;rintro e w'⟨rfl,rfl⟩)
   go_returns;exact⟨rfl,rfl⟩
  .rw[if_neg h2]
   have h2':x<=y:=by omega
   go_enter func249,ntmps249
   go_wp2_with(go_at_call 251;refine(nan64 _ _).mono ?_;rintro e w'⟨rfl,rfl⟩)
   go_returns;exact⟨rfl,rfl⟩
theorem cmpInt(x y:Int)(w:World):Calls prog 250 #[.int .i64 x,.int .i64 y] w λe w'=>e=.returned (.int .i64 (cmpI x y))/\w=w':=by
 unfold cmpI;by_cases h1:x<y
 .rw[if_pos h1]
  go_enter func250,ntmps250
  go_wp2_with(go_at_call 252;refine(nanI _ _).mono ?_;rintro e w'⟨rfl,rfl⟩)
  go_returns;exact⟨rfl,rfl⟩
 .rw[if_neg h1]
  have h1':y<=x:=by omega
  by_cases h2:y<x
  .rw[if_pos h2]
   go_enter func250,ntmps250
   go_wp2_with(go_at_call 252;refine(nanI _ _).mono ?_;rintro e w'⟨rfl,rfl⟩)
   go_returns;exact⟨rfl,rfl⟩
  .rw[if_neg h2]
   have h2':x<=y:=by omega
   go_enter func250,ntmps250
   go_wp2_with(go_at_call 252;refine(nanI _ _).mono ?_;rintro e w'⟨rfl,rfl⟩)
   go_returns;exact⟨rfl,rfl⟩
theorem or_calls{g:Nat}{p q r:Int}(h0:w.cell? ⟨g,0,none⟩=some (.int .i64 p))(h1:w.cell? ⟨g,1,none⟩=some (.int .i64 q))(h2:w.cell? ⟨g,2,none⟩=some (.int .i64 r)):Calls prog 248 #[.slice (some ⟨g,0,none⟩) 3 3] w λe w'=>e=.returned (.int .i64 (orI p q r))/\w=w':=by
 have HC:Hid (∀k,k<3->w.cell? ⟨g,k,none⟩=some (.int .i64 (if k=0 then p else if k=1 then q else r))):=by
  intro k hk
  match k,hk with
  |0,_=>exact h0
  |1,_=>exact h1
  |2,_=>exact h2
 have hlt:g<w.heap.size:=World.block_lt_of_cell? (w:=w) (a:=⟨g,0,none⟩) h0;clear h0 h1 h2;go_enter func248,ntmps248;go_wp2
 go_loopw [8] (λi wr=>∃k:Nat,k<=3/\i=.int .i64 k/\wr=w/\Hid (orI p q r=if k=0 then orI p q r else if k=1 then(if q=0 then r else q)else if k=2 then r else 0)) (λi _=>3-(intOf i).toNat)
 case atStart=>exact⟨0,by omega,rfl,rfl,rfl⟩
 case round=>
  obtain⟨k,hk,rfl,rfl,HO⟩:=hrel;by_cases hlt3:k<3
  .have cy:=HC.out k hlt3
   generalize hy:(if k=0 then p else if k=1 then q else r)=y at cy;have HY:=Hd hy;clear hy;by_cases hz:y=0
   .subst hz
    go_wp2
    go_roundw
    case rel=>
     refine⟨k+1,by omega,by go_num,by first|rfl|trivial,?_⟩;have h1:=HO.out;have h2:=HY.out
     match k,hlt3 with
     |0,_=>
      have h2:p=0:=h2
      show orI p q r=(if q=0 then r else q)
      unfold orI;rw[if_pos h2]
     |1,_=>
      have h2:q=0:=h2;have h1:orI p q r=(if q=0 then r else q):=h1
      show orI p q r=r
      rw[h1,if_pos h2]
     |2,_=>
      have h2:r=0:=h2;have h1:orI p q r=r:=h1
      show orI p q r=0
      rw[h1,h2]
    case measure=>simp[intOf];omega
   .have HE:Hid (orI p q r=y):=by
     have h1:=HO.out;have h2:=HY.out
     match k,hlt3 with
     |0,_=>
      have h2:p=y:=h2;unfold Hid orI;rw[if_neg (by omega),h2]
     |1,_=>
      have h2:q=y:=h2;have h1:orI p q r=(if q=0 then r else q):=h1;unfold Hid;rw[h1,if_neg (by omega),h2]
     |2,_=>
      have h2:r=y:=h2;have h1:orI p q r=r:=h1;unfold Hid;rw[h1,h2]
    have hzb:(y==0)=false:=by simpa using hz
    have hzn:(y !=0)=true:=by simpa using hz
    clear hz HO HY;go_wp2;go_returns;exact⟨by rw[HE.out];rfl,rfl⟩
  .obtain rfl:k=3:=by omega
   have HE:Hid (orI p q r=0):=by have h1:=HO.out;exact h1
   clear HO;go_wp2;go_returns;exact⟨by rw[HE.out];rfl,rfl⟩
def thV(t:Th):Value:=.agg #[.int .i64 t.x,.int .i64 t.a,.int .i64 t.b]
theorem compare_calls(t u:Th)(w:World):Calls prog 247 #[thV t,thV u] w λe w'=>e=.returned (.int .i64 (cmpT t u))/\Fr NoF w w':=by
 obtain⟨tx,ta,tb⟩:=t;obtain⟨ux,ua,ub⟩:=u;unfold thV;have HE:Hid (cmpT ⟨tx,ta,tb⟩ ⟨ux,ua,ub⟩=orI (cmpI ta ua) (cmpI tb ub) (cmpI tx ux)):=rfl;rw[HE.out];have HA:=Hd (λW=>cmp64 ta ua W);have HB:=Hd (λW=>cmp64 tb ub W);have HX:=Hd (λW=>cmpInt tx ux W);generalize cmpI ta ua=p at*;generalize cmpI tb ub=q at*;generalize cmpI tx ux=r at*;go_enter func247,ntmps247
 go_wp2_with fail
 have HBX:Hid (∀W,Fr NoF ((w.alloc (.cells #[.int .i64 tx,.int .i64 ta,.int .i64 tb] 231)).alloc (.cells #[.int .i64 ux,.int .i64 ua,.int .i64 ub] 231)) W->W.cell? ⟨w.heap.size,0,none⟩=some (.int .i64 tx)/\W.cell? ⟨w.heap.size,1,none⟩=some (.int .i64 ta)/\W.cell? ⟨w.heap.size,2,none⟩=some (.int .i64 tb)/\W.cell? ⟨w.heap.size+1,0,none⟩=some (.int .i64 ux)/\W.cell? ⟨w.heap.size+1,1,none⟩=some (.int .i64 ua)/\W.cell? ⟨w.heap.size+1,2,none⟩=some (.int .i64 ub)):=by
  intro W f
  have b1:Blk ((w.alloc (.cells #[.int .i64 tx,.int .i64 ta,.int .i64 tb] 231)).alloc (.cells #[.int .i64 ux,.int .i64 ua,.int .i64 ub] 231)) w.heap.size 3 (λi=>if i=0 then .int .i64 tx else if i=1 then .int .i64 ta else .int .i64 tb):=(Blk.new w #[.int .i64 tx,.int .i64 ta,.int .i64 tb] 231 3 _ _ rfl rfl (λi hi=>by
   match i,hi with
   |0,_=>rfl
   |1,_=>rfl
   |2,_=>rfl)).alloc _
  have b2:Blk ((w.alloc (.cells #[.int .i64 tx,.int .i64 ta,.int .i64 tb] 231)).alloc (.cells #[.int .i64 ux,.int .i64 ua,.int .i64 ub] 231)) (w.heap.size+1) 3 (λi=>if i=0 then .int .i64 ux else if i=1 then .int .i64 ua else .int .i64 ub):=Blk.new _ #[.int .i64 ux,.int .i64 ua,.int .i64 ub] 231 3 _ _ (by simp) rfl (λi hi=>by
   match i,hi with
   |0,_=>rfl
   |1,_=>rfl
   |2,_=>rfl)
  have c1:=b1.fr f (λq=>q);have c2:=b2.fr f (λq=>q);exact⟨c1.cell (i:=0) (by omega),c1.cell (i:=1) (by omega),c1.cell (i:=2) (by omega),c2.cell (i:=0) (by omega),c2.cell (i:=1) (by omega),c2.cell (i:=2) (by omega)⟩
 have HSZ:Hid (Fr NoF w ((w.alloc (.cells #[.int .i64 tx,.int .i64 ta,.int .i64 tb] 231)).alloc (.cells #[.int .i64 ux,.int .i64 ua,.int .i64 ub] 231))):=((Fr.refl NoF w).alloc _).alloc _;have hl1:w.heap.size<((w.alloc (.cells #[.int .i64 tx,.int .i64 ta,.int .i64 tb] 231)).alloc (.cells #[.int .i64 ux,.int .i64 ua,.int .i64 ub] 231)).heap.size:=by simp;omega
 have hl2:w.heap.size+1<((w.alloc (.cells #[.int .i64 tx,.int .i64 ta,.int .i64 tb] 231)).alloc (.cells #[.int .i64 ux,.int .i64 ua,.int .i64 ub] 231)).heap.size:=by simp
 generalize(w.alloc (.cells #[.int .i64 tx,.int .i64 ta,.int .i64 tb] 231)).alloc (.cells #[.int .i64 ux,.int .i64 ua,.int .i64 ub] 231)=wB at*;generalize w.heap.size+1=bU at*;generalize w.heap.size=bT at*
 have HOr:Hid (∀W,Fr NoF (wB.alloc (.cells #[.int .i64 p,.int .i64 q,.int .i64 r] 3)) W->Calls prog 248 #[.slice (some ⟨wB.heap.size,0,none⟩) 3 3] W λe w'=>e=.returned (.int .i64 (orI p q r))/\W=w'):=by
  intro W f
  have b1:Blk (wB.alloc (.cells #[.int .i64 p,.int .i64 q,.int .i64 r] 3)) wB.heap.size 3 (λi=>if i=0 then .int .i64 p else if i=1 then .int .i64 q else .int .i64 r):=Blk.new wB #[.int .i64 p,.int .i64 q,.int .i64 r] 3 3 _ _ rfl rfl (λi hi=>by
   match i,hi with
   |0,_=>rfl
   |1,_=>rfl
   |2,_=>rfl)
  have c1:=b1.fr f (λq=>q);exact or_calls (c1.cell (i:=0) (by omega)) (c1.cell (i:=1) (by omega)) (c1.cell (i:=2) (by omega))
 go_region_held3(λw'=>w'.cell? ⟨bT,0,none⟩=some (.int .i64 tx)/\w'.cell? ⟨bT,1,none⟩=some (.int .i64 ta)/\w'.cell? ⟨bT,2,none⟩=some (.int .i64 tb)/\w'.cell? ⟨bU,0,none⟩=some (.int .i64 ux)/\w'.cell? ⟨bU,1,none⟩=some (.int .i64 ua)/\w'.cell? ⟨bU,2,none⟩=some (.int .i64 ub))
  (exact HBX.out _ (by repeat(first|exact Fr.refl NoF _|apply Fr.drew|apply Fr.drewN|apply Fr.alloc)))
  (first
   |(go_at_call 249;(with_reducible refine(HA.out _).mono ?_);rintro e w'⟨rfl,rfl⟩)
   |(go_at_call 249;(with_reducible refine(HB.out _).mono ?_);rintro e w'⟨rfl,rfl⟩)
   |(go_at_call 250;(with_reducible refine(HX.out _).mono ?_);rintro e w'⟨rfl,rfl⟩)
   |(go_at_call 248;(with_reducible refine(HOr.out _ (by repeat(first|exact Fr.refl NoF _|apply Fr.drew|apply Fr.drewN))).mono ?_);rintro e w'⟨rfl,rfl⟩))
 all_goals
  go_wp2;go_returns;exact⟨rfl,by repeat(first|exact HSZ.out|apply Fr.drew|apply Fr.drewN|apply Fr.alloc)⟩
end
end
section
open Go.ChangeMaps Go.MapKept Go.Maps Go.RowKit
section
variable{P:Program}{t k e:TypeId}{kq eq:IntKind}{w w':World}{b c:Nat}{m:Int->Option Int}
theorem run_und{ty:TypeId}{d:TypeDesc}(h:P.underlying ty=some d)(w:World):(underlying ty).run P w=.ok d w:=by
 unfold underlying;simp[go_sem,h]
theorem MpN.ofHeap(h:MpN P k e kq eq w b c m)(e':w'.heap[b]?=w.heap[b]?):MpN P k e kq eq w' b c m:=by
 obtain⟨D,⟨es,clock,hb,r⟩,r2⟩:=h;exact⟨D,⟨es,clock,by rw[e'];exact hb,r⟩,r2⟩
theorem fr_setBlock{o o':Obj}(hb:w.heap[b]?=some o):Fr (λi=>i=b) w (setBlock w b o'):=
 ⟨rfl,rfl,rfl,by simp[setBlock],λi _ hi=>by simp only[setBlock];rw[Array.getElem?_setIfInBounds_ne (λq=>hi q.symm)]⟩
theorem at_setBlock{o o':Obj}(hb:w.heap[b]?=some o):(setBlock w b o').heap[b]?=some o':=by
 have hl:b<w.heap.size:=by
  rcases Nat.lt_or_ge b w.heap.size with h'|h'
  .exact h'
  .simp[Array.getElem?_eq_none h']at hb
 simp[setBlock,hl]
theorem two_steps(K:Keyed P k)(ht:P.underlying t=some (.map k e)){z:Value}(hz:∀u:World,(zeroValue e).run P u=.ok z u){R:Value->Option (DataW Unit×List MemPlace)}{es:Array MapEntry}{clock:Nat}(hb:w.heap[b]?=some (.map es clock))(F:WideElems.Fit P k R es clock)
  {key:Value}{kl:Lit}(hkey:keyOf P k key=some kl)(val:Value):
  ∃(v0:Value) (st:Nat) (es1:Array MapEntry) (clock1:Nat) (es2:Array MapEntry) (clock2:Nat),(Instr.mapEntry t (.map (some b)) key).run P w=.ok (.tuple #[v0,goInt st]) (setBlock w b (.map es1 clock1))/\
   (∀w2:World,w2.heap[b]?=some (.map es1 clock1)->(Instr.entryStore t (.map (some b)) (goInt st) val).run P w2=.ok () (setBlock w2 b (.map es2 clock2)))/\
   (Instr.mapUpdate t (.map (some b)) key val).run P w=.ok () (setBlock w b (.map es2 clock2)):=by
 obtain⟨s1,s2,_⟩:=F.stamped;rcases K.find w hkey es.toList F.keys with⟨h1,h2⟩|⟨j,e0,h1,h2,h3⟩
 .have hidx:(es.push ⟨key,z,clock⟩).findIdx? (λe=>((e.born:Nat):Int)==((clock:Nat):Int))=some es.size:=by
   rw[WideElems.findIdx_arr];refine WideElems.findIdx_born (l:=(es.push ⟨key,z,clock⟩).toList) (j:=es.size) (e0:=⟨key,z,clock⟩) ?_ (by simp);rw[Array.toList_push,List.map_append];refine List.nodup_append.2 ⟨s2,by simp,λx hx y hy q=>?_⟩;obtain⟨e1,he1,rfl⟩:=List.mem_map.1 hx;have hy:y=clock:=by simpa using hy
   have:=s1 e1 he1;omega
  have hmod:(es.push ⟨key,z,clock⟩).modify es.size (λe=>{e with val:=val})=es.push ⟨key,val,clock⟩:=by
   apply Array.ext';rw[Array.toList_modify,Array.toList_push,Array.toList_push,<-Array.length_toList,WideElems.modify_last]
  refine⟨z,clock,es.push ⟨key,z,clock⟩,clock+1,es.push ⟨key,val,clock⟩,clock+1,?_,λw2 hw2=>?_,?_⟩
  .simp[Instr.mapEntry,Go.Proofs.YtpkbkhffglikhaaGreatDoor.run_und ht,MapKept.run_getObj_map hb,K.check w false hkey,h1,hz,MapKept.run_setObj_map _ hb,Result.andThen,setBlock]
  .simp[Instr.entryStore,MapKept.run_getObj_map hw2,asInt,asIntOf,goInt,hidx,hmod,MapKept.run_setObj_map _ hw2,Result.andThen,setBlock]
  .simp[Instr.mapUpdate,Go.Proofs.YtpkbkhffglikhaaGreatDoor.run_und ht,MapKept.run_getObj_map hb,K.check w false hkey,h1,MapKept.run_setObj_map _ hb,Result.andThen,setBlock]
 .have hj:es[j]?=some e0:=by simpa using h2
  have hsame:es.modify j (λe=>{e with key:=key})=es:=by
   apply Array.ext';rw[Array.toList_modify,modify_eq_set _ _ _ _ h2,show({e0 with key:=key}:MapEntry)=e0 from by rw[<-h3]];exact WideElems.set_self _ _ _ h2
  have hidx:es.findIdx? (λe=>((e.born:Nat):Int)==((e0.born:Nat):Int))=some j:=by
   rw[WideElems.findIdx_arr];exact WideElems.findIdx_born s2 h2
  have hmod:es.modify j (λe=>{e with val:=val})=es.modify j (λe'=>{e' with key:=key,val:=val}):=by
   apply Array.ext';rw[Array.toList_modify,Array.toList_modify,modify_eq_set _ _ _ _ h2,modify_eq_set _ _ _ _ h2,<-h3]
  refine⟨e0.val,e0.born,es,clock,es.modify j (λe'=>{e' with key:=key,val:=val}),clock,?_,λw2 hw2=>?_,?_⟩
  .simp[Instr.mapEntry,Go.Proofs.YtpkbkhffglikhaaGreatDoor.run_und ht,MapKept.run_getObj_map hb,K.check w false hkey,h1,hj,h3,K.stays w hkey,hsame,MapKept.run_setObj_map _ hb,Result.andThen,setBlock]
  .simp[Instr.entryStore,MapKept.run_getObj_map hw2,asInt,asIntOf,goInt,hidx,hmod,MapKept.run_setObj_map _ hw2,Result.andThen,setBlock]
  .simp[Instr.mapUpdate,Go.Proofs.YtpkbkhffglikhaaGreatDoor.run_und ht,MapKept.run_getObj_map hb,K.check w false hkey,h1,hj,h3,K.stays w hkey,MapKept.run_setObj_map _ hb,Result.andThen,setBlock]
theorem MpN.entry(M:MI P t k e kq eq)(h:MpN P k e kq eq w b c m)(hc:c<1000000){x y:Int}(hx:(Lit.int kq x).wf=true)(hy:(Lit.int eq y).wf=true):
  ∃(v0:Value) (st:Nat) (w1 w2:World),(Instr.mapEntry t (.map (some b)) (.int kq x)).run P w=.ok (.tuple #[v0,.int .i64 (st:Int)]) w1/\(Instr.entryStore t (.map (some b)) (.int .i64 (st:Int)) (.int eq y)).run P w1=.ok () w2/\
   Fr (λi=>i=b) w w1/\MpN P k e kq eq w2 b (if(m x).isSome then c else c+1) (updI m x (some y))/\Fr (λi=>i=b) w w2:=by
 obtain⟨D,h1,h2,h3⟩:=h;have K:=int_keyed M.uk;have hh1:=h1;obtain⟨es,clock,hb,F,hs,hD⟩:=hh1;obtain⟨v0,st,es1,clock1,es2,clock2,r1,r2,r3⟩:=two_steps K M.ut M.z hb F (keyOf_int_mk M.uk hx) (.int eq y);obtain⟨w'',q1,q2,q3⟩:=h1.update K M.ut (by unfold maxLen;omega) (keyOf_int_mk M.uk hx) (plainElem_int M.ue hy);rw[r3]at q1;obtain rfl:setBlock w b (.map es2 clock2)=w'':=by injection q1
 have hb1:=at_setBlock (o':=.map es1 clock1) hb;have f1:=fr_setBlock (o':=.map es1 clock1) hb;refine⟨v0,st,_,_,r1,r2 _ hb1,f1,?_,f1.trans (fr_setBlock hb1) (λi q=>.inl q)⟩;refine(MpN.put_of M q2 (h1.tidy K) h2 h3 hx).ofHeap ?_;rw[at_setBlock hb1,at_setBlock hb]
theorem MpN.put_run(M:MI P t k e kq eq)(h:MpN P k e kq eq w b c m)(hc:c<1000000){x y:Int}(hx:(Lit.int kq x).wf=true)(hy:(Lit.int eq y).wf=true):
  ∃w',(Instr.mapUpdate t (.map (some b)) (.int kq x) (.int eq y)).run P w=.ok () w'/\MpN P k e kq eq w' b (if(m x).isSome then c else c+1) (updI m x (some y))/\Fr (λi=>i=b) w w':=by
 obtain⟨D,h1,h2,h3⟩:=h;have K:=int_keyed M.uk;have hh1:=h1;obtain⟨es,clock,hb,F,hs,hD⟩:=hh1;obtain⟨v0,st,es1,clock1,es2,clock2,r1,r2,r3⟩:=two_steps K M.ut M.z hb F (keyOf_int_mk M.uk hx) (.int eq y);obtain⟨w'',q1,q2,q3⟩:=h1.update K M.ut (by unfold maxLen;omega) (keyOf_int_mk M.uk hx) (plainElem_int M.ue hy);rw[r3]at q1;obtain rfl:setBlock w b (.map es2 clock2)=w'':=by injection q1
 exact⟨_,r3,MpN.put_of M q2 (h1.tidy K) h2 h3 hx,fr_setBlock hb⟩
theorem MpN.del_run(M:MI P t k e kq eq)(h:MpN P k e kq eq w b c m){x:Int}(hx:(Lit.int kq x).wf=true)(ty:TypeId):
  ∃w',(Builtin.delete_ #[t,k] ty #[.map (some b),.int kq x]).run P w=.ok (.tuple #[]) w'/\MpN P k e kq eq w' b (if(m x).isSome then c-1 else c) (updI m x none)/\Fr (λi=>i=b) w w':=by
 obtain⟨D,h1,h2,h3⟩:=h;have K:=int_keyed M.uk;obtain⟨w',r,q1,q2⟩:=h1.drop K M.ut (keyOf_int_mk M.uk hx) ty;exact⟨w',r,MpN.del_of q1 (h1.tidy K) h2 h3 hx,turned_fr q2⟩
theorem delS{ops:Array Oper}{o:Oper}{a:Act}{Q:Exit->Act->World->Prop}{K:Act->World->Prop}{E:Prop}(M:MI P t k e kq eq)(h:MpN P k e kq eq w b c m)(hg:o.guard=none)(mo xo:Operand)(hop:o.op=Op.call {callee:=Callee.builtin Builtin.delete,args:=#[mo,xo],argTypes:=#[t,k]})(hm:a.eval mo=.map (some b)){x:Int}(hx:a.eval xo=.int kq x)(hw:(Lit.int kq x).wf=true)
  (hK:∀w',MpN P k e kq eq w' b (if(m x).isSome then c-1 else c) (updI m x none)->Fr (λi=>i=b) w w'->K (a.put o.dst (.tuple #[])) w'):
  if Region.wanted o (yielded ops a.tmps)=true then Oper.wp P o a w K Q else E:=by
 have hwn:Region.wanted o (yielded ops a.tmps)=true:=by simp[Region.wanted,hg]
 rw[if_pos hwn];obtain⟨w',hrun,r1,r2⟩:=h.del_run M hw o.type;unfold Oper.wp;simp[execOp,hop,resolve,invoke,builtin,hm,hx,hrun,Result.andThen];exact hK _ r1 r2
end
end
section
open Go.Proofs.Tryz Go.RowKit
structure HeapSysQ{α:Type}(lt:α->α->Bool)(HR:World->(Nat->α)->Nat->(Nat->Prop)->Prop)(p:Addr)(enc:α->Value)(okP:(Nat->α)->Nat->α->Prop):Prop where
 fr:∀{w w':World} {a:Nat->α} {n:Nat} {F G:Nat->Prop},HR w a n F->Fr G w w'->(∀i,F i->¬G i)->HR w' a n F
 bd:∀{w:World} {a:Nat->α} {n:Nat} {F:Nat->Prop},HR w a n F->∀i,F i->i<w.heap.size
 small:∀{w:World} {a:Nat->α} {n:Nat} {F:Nat->Prop},HR w a n F->n<1000000
 len:∀{w:World} {a:Nat->α} {n:Nat} {F:Nat->Prop},HR w a n F->∃rv,(method 344 224 (.pointer (some p)) "Len").run prog w=.ok (171,rv) w/\Calls prog 171 #[rv] w λe w'=>e=.returned (.int .i64 (n:Nat))/\Fr NoF w w'
 less:∀{w:World} {a:Nat->α} {n:Nat} {F:Nat->Prop} {i j:Nat},HR w a n F->i<n->j<n->∃rv,(method 344 224 (.pointer (some p)) "Less").run prog w=.ok (243,rv) w/\Calls prog 243 #[rv,.int .i64 i,.int .i64 j] w λe w'=>e=.returned (.bool (lt (a i) (a j)))/\Fr NoF w w'
 swap:∀{w:World} {a:Nat->α} {n:Nat} {F:Nat->Prop} {i j:Nat},HR w a n F->i<n->j<n->∃rv,(method 344 224 (.pointer (some p)) "Swap").run prog w=.ok (246,rv) w/\Calls prog 246 #[rv,.int .i64 i,.int .i64 j] w λe w'=>e=.returned (.tuple #[])/\HR w' (swp a i j) n F/\Fr F w w'
 push:∀{w:World} {a:Nat->α} {n:Nat} {F:Nat->Prop} {t:α},HR w a n F->okP a n t->∃rv,(method 344 224 (.pointer (some p)) "Push").run prog w=.ok (245,rv) w/\Calls prog 245 #[rv,enc t] w λe w'=>e=.returned (.tuple #[])/\∃F',HR w' (upd a n t) (n+1) F'/\Fr F w w'/\∀i,F' i->F i\/w.heap.size<=i
 pop:∀{w:World} {a:Nat->α} {n:Nat} {F:Nat->Prop},HR w a (n+1) F->∃rv,(method 344 224 (.pointer (some p)) "Pop").run prog w=.ok (244,rv) w/\Calls prog 244 #[rv] w λe w'=>e=.returned (enc (a n))/\HR w' a n F/\Fr F w w'
section
variable{α:Type}{lt:α->α->Bool}{HR:World->(Nat->α)->Nat->(Nat->Prop)->Prop}{p:Addr}{enc:α->Value}{okP:(Nat->α)->Nat->α->Prop}(S:HeapSysQ lt HR p enc okP){w:World}{a:Nat->α}{n:Nat}{F:Nat->Prop}
include S
theorem up_walkQ(h:HR w a n F){j:Nat}(hj:j<n):Calls prog 90 #[.iface 224 (.pointer (some p)),.int .i64 j] w λe w'=>e=.returned (.tuple #[])/\HR w' (upF lt a j) n F/\Fr F w w':=by
 have hn:=S.small h;have HS:=Hd S;have HH:=Hd h;clear h S;go_enter func90,ntmps90;go_wp2
 go_loopg [1] j (λg v wr=>∃a':Nat->α,g<n/\v=.int .i64 g/\HR wr a' n F/\upF lt a' g=upF lt a j/\Fr F w wr)
 case atStart=>exact⟨a,hj,rfl,HH.out,rfl,Fr.refl _ _⟩
 case round=>
  obtain⟨a',hk,rfl,hr,he,hf⟩:=hrel;have HR1:=Hd hr;have HE:=Hd he;have HF:=Hd hf;clear hr he hf HH;by_cases h0:gk=0
  .have HU:Hid (upF lt a' gk=a'):=by unfold Hid;rw[upF,dif_pos h0]
   subst h0;go_wp2;go_returns;refine⟨rfl,?_,HF.out⟩;rw[<-HE.out,HU.out];exact HR1.out
  .have hp:((gk:Int)-1)/2=(par gk:Nat):=by unfold par;omega
   have hpk:par gk<gk:=by unfold par;omega
   have h1:1<=(gk:Int):=by omega
   have hne2:(((par gk:Nat):Int)==(gk:Int))=false:=by simp;omega
   have HUP:Hid (upF lt a' gk=if lt (a' gk) (a' (par gk))then upF lt (swp a' (par gk) gk) (par gk)else a'):=by
    unfold Hid;rw[upF,dif_neg h0]
   obtain⟨rv,hm,HC⟩:=HS.out.less (i:=gk) (j:=par gk) HR1.out hk (by omega);have HCL:=Hd HC
   have HSW:Hid (∀w',Fr NoF wr w'->∃rv,(method 344 224 (.pointer (some p)) "Swap").run prog w'=.ok (246,rv) w'/\Calls prog 246 #[rv,.int .i64 (par gk:Nat),.int .i64 gk] w' λe w''=>e=.returned (.tuple #[])/\HR w'' (swp a' (par gk) gk) n F/\Fr F w' w''):=by
    intro w' f;exact HS.out.swap (HS.out.fr HR1.out f (λ_ _ q=>q)) (by omega) hk
   generalize hq:par gk=q at*;have HQ:=Hd hq;clear hq HC h0
   cases hl:lt (a' gk) (a' q)with
   |false=>
    rw[hl]at HCL HUP;clear hl
    go_wp2_with fail
    refine HCL.out.mono ?_;clear HCL hm;rintro e w2⟨rfl,hf2⟩;have HF2:=Hd hf2;clear hf2;go_wp2;go_returns;refine⟨rfl,?_,HF.out.trans HF2.out (λ_ q=>q.elim)⟩;rw[<-HE.out,HUP.out];exact HS.out.fr HR1.out HF2.out (λ_ _ q=>q)
   |true=>
    rw[hl]at HCL HUP;clear hl
    go_wp2_with fail
    refine HCL.out.mono ?_;clear HCL hm;rintro e w2⟨rfl,hf2⟩;obtain⟨rv2,hm2,HC2⟩:=HSW.out w2 hf2;have HCS:=Hd HC2;have HF2:=Hd (HF.out.trans hf2 (λ_ q=>q.elim));clear hf2 HC2
    go_wp2_with fail
    refine HCS.out.mono ?_;clear HCS hm2;rintro e w3⟨rfl,hr3,hf3⟩;have HR3:=Hd (And.intro hr3 (HF2.out.trans hf3 (λi q=>.inl q)));clear hr3 hf3;go_wp2
    go_roundg q
    case measure=>omega
    case rel=>exact⟨swp a' q gk,by omega,rfl,HR3.out.1,by rw[<-HE.out,HUP.out];simp,HR3.out.2⟩
theorem down_walkQ{m:Nat}(h:HR w a m F)(hnm:n<=m){i:Nat}(hi:i<n):Calls prog 86 #[.iface 224 (.pointer (some p)),.int .i64 i,.int .i64 n] w λe w'=>e=.returned (.bool (decide (i<(downF lt n a i).2)))/\HR w' (downF lt n a i).1 m F/\Fr F w w':=by
 have hm0:=S.small h;have HS:=Hd S;have HH:=Hd h;clear h S;go_enter func86,ntmps86;go_wp2
 go_loopg [7] (n-i) (λg v wr=>∃(k:Nat) (a':Nat->α),k<n/\g=n-k/\v=.int .i64 k/\HR wr a' m F/\downF lt n a' k=downF lt n a i/\Fr F w wr)
 case atStart=>exact⟨i,a,hi,rfl,rfl,HH.out,rfl,Fr.refl _ _⟩
 case round=>
  obtain⟨k,a',hk,rfl,rfl,hr,he,hf⟩:=hrel;have HR1:=Hd hr;have HE:=Hd he;have HF:=Hd hf;clear hr he hf HH;by_cases h0:n<=2*k+1
  .have HU:Hid (downF lt n a' k=(a',k)):=by unfold Hid;rw[downF,dif_pos h0]
   go_wp2;go_returns;have hE:=HE.out;rw[HU.out]at hE;rw[<-hE];exact⟨by first|rfl|simp,HR1.out,HF.out⟩
  .have HDN0:Hid (downF lt n a' k=if lt (a' (least2 lt a' n (2*k+1))) (a' k)then downF lt n (swp a' k (least2 lt a' n (2*k+1))) (least2 lt a' n (2*k+1))else(a',k)):=by
    unfold Hid;rw[downF,dif_neg h0]
   have HLS:Hid (∀(j:Nat) (w':World),Fr NoF wr w'->j<n->k<n->∃rv,(method 344 224 (.pointer (some p)) "Less").run prog w'=.ok (243,rv) w'/\Calls prog 243 #[rv,.int .i64 j,.int .i64 k] w' λe w''=>e=.returned (.bool (lt (a' j) (a' k)))/\Fr NoF w' w''):=by
    intro j w' f h1 h2;exact HS.out.less (HS.out.fr HR1.out f (λ_ _ q=>q)) (by omega) (by omega)
   have HSW:Hid (∀(j:Nat) (w':World),Fr NoF wr w'->j<n->¬k=j->∃rv,(method 344 224 (.pointer (some p)) "Swap").run prog w'=.ok (246,rv) w'/\Calls prog 246 #[rv,.int .i64 k,.int .i64 j] w' λe w''=>e=.returned (.tuple #[])/\HR w'' (swp a' k j) m F/\Fr F w' w''):=by
    intro j w' f h1 h2;exact HS.out.swap (HS.out.fr HR1.out f (λ_ _ q=>q)) (by omega) (by omega)
   have j1:2*k+1<n:=by omega
   by_cases h2:2*k+1+1<n
   .obtain⟨rv,hm,HC⟩:=HS.out.less (i:=2*k+1+1) (j:=2*k+1) HR1.out (by omega) (by omega)
    have HCL:=Hd HC;clear HC
    cases hb:lt (a' (2*k+1+1)) (a' (2*k+1))with
    |true=>
     rw[hb]at HCL
     have HDN:Hid (downF lt n a' k=if lt (a' (2*k+1+1)) (a' k)then downF lt n (swp a' k (2*k+1+1)) (2*k+1+1)else(a',k)):=by
      have:least2 lt a' n (2*k+1)=2*k+1+1:=by unfold least2;rw[if_pos ⟨h2,hb⟩]
      have:=this▸HDN0.out;exact this
     clear hb HDN0
     go_wp2_with fail
     refine HCL.out.mono ?_;clear HCL hm;rintro e w2⟨rfl,hf2⟩;have HF2:=Hd hf2;clear hf2;obtain⟨rv1,hm1,HC1⟩:=HLS.out (2*k+1+1) w2 HF2.out h2 (by omega);have HCL1:=Hd HC1;clear HC1
     cases hl:lt (a' (2*k+1+1)) (a' k)with
     |false=>
      rw[hl]at HCL1 HDN;clear hl
      go_wp2_with fail
      refine HCL1.out.mono ?_;clear HCL1 hm1;rintro e w3⟨rfl,hf3⟩;have HF3:=Hd (HF2.out.trans hf3 (λ_ q=>q.elim));clear hf3;go_wp2;go_returns;have hE:=HE.out;rw[HDN.out]at hE;simp only[Bool.false_eq_true,if_false]at hE;refine⟨?_,?_,HF.out.trans HF3.out (λ_ q=>q.elim)⟩
      .rw[<-hE];first|rfl|simp
      .rw[<-hE];exact HS.out.fr HR1.out HF3.out (λ_ _ q=>q)
     |true=>
      rw[hl]at HCL1 HDN;clear hl
      go_wp2_with fail
      refine HCL1.out.mono ?_;clear HCL1 hm1;rintro e w3⟨rfl,hf3⟩;obtain⟨rv2,hm2,HC2⟩:=HSW.out (2*k+1+1) w3 (HF2.out.trans hf3 (λ_ q=>q.elim)) h2 (by omega);have HCS:=Hd HC2;have HF3:=Hd (HF.out.trans (HF2.out.trans hf3 (λ_ q=>q.elim)) (λ_ q=>q.elim));clear hf3 HC2
      go_wp2_with fail
      refine HCS.out.mono ?_;clear HCS hm2;rintro e w4⟨rfl,hr4,hf4⟩;have HR4:=Hd (And.intro hr4 (HF3.out.trans hf4 (λi q=>.inl q)));clear hr4 hf4;go_wp2
      go_roundg (n-((2*k+1+1)))
      case measure=>omega
      case rel=>exact⟨(2*k+1+1),swp a' k ((2*k+1+1)),h2,rfl,by first|rfl|go_num|(simp;done)|(congr 1;push_cast;omega),HR4.out.1,by rw[<-HE.out,HDN.out];simp,HR4.out.2⟩
    |false=>
     rw[hb]at HCL
     have HDN:Hid (downF lt n a' k=if lt (a' (2*k+1)) (a' k)then downF lt n (swp a' k (2*k+1)) (2*k+1)else(a',k)):=by
      have:least2 lt a' n (2*k+1)=2*k+1:=by unfold least2;rw[if_neg (λq=>by rw[hb]at q;cases q.2)]
      have:=this▸HDN0.out;exact this
     clear hb HDN0
     go_wp2_with fail
     refine HCL.out.mono ?_;clear HCL hm;rintro e w2⟨rfl,hf2⟩;have HF2:=Hd hf2;clear hf2;obtain⟨rv1,hm1,HC1⟩:=HLS.out (2*k+1) w2 HF2.out j1 (by omega);have HCL1:=Hd HC1;clear HC1
     cases hl:lt (a' (2*k+1)) (a' k)with
     |false=>
      rw[hl]at HCL1 HDN;clear hl
      go_wp2_with fail
      refine HCL1.out.mono ?_;clear HCL1 hm1;rintro e w3⟨rfl,hf3⟩;have HF3:=Hd (HF2.out.trans hf3 (λ_ q=>q.elim));clear hf3;go_wp2;go_returns;have hE:=HE.out;rw[HDN.out]at hE;simp only[Bool.false_eq_true,if_false]at hE;refine⟨?_,?_,HF.out.trans HF3.out (λ_ q=>q.elim)⟩
      .rw[<-hE];first|rfl|simp
      .rw[<-hE];exact HS.out.fr HR1.out HF3.out (λ_ _ q=>q)
     |true=>
      rw[hl]at HCL1 HDN;clear hl
      go_wp2_with fail
      refine HCL1.out.mono ?_;clear HCL1 hm1;rintro e w3⟨rfl,hf3⟩;obtain⟨rv2,hm2,HC2⟩:=HSW.out (2*k+1) w3 (HF2.out.trans hf3 (λ_ q=>q.elim)) j1 (by omega);have HCS:=Hd HC2;have HF3:=Hd (HF.out.trans (HF2.out.trans hf3 (λ_ q=>q.elim)) (λ_ q=>q.elim));clear hf3 HC2
      go_wp2_with fail
      refine HCS.out.mono ?_;clear HCS hm2;rintro e w4⟨rfl,hr4,hf4⟩;have HR4:=Hd (And.intro hr4 (HF3.out.trans hf4 (λi q=>.inl q)));clear hr4 hf4;go_wp2
      go_roundg (n-((2*k+1)))
      case measure=>omega
      case rel=>exact⟨(2*k+1),swp a' k ((2*k+1)),j1,rfl,by first|rfl|go_num|(simp;done)|(congr 1;push_cast;omega),HR4.out.1,by rw[<-HE.out,HDN.out];simp,HR4.out.2⟩
   .have HDN:Hid (downF lt n a' k=if lt (a' (2*k+1)) (a' k)then downF lt n (swp a' k (2*k+1)) (2*k+1)else(a',k)):=by
     have:least2 lt a' n (2*k+1)=2*k+1:=by unfold least2;rw[if_neg (λq=>h2 q.1)]
     have:=this▸HDN0.out;exact this
    clear HDN0;obtain⟨rv1,hm1,HC1⟩:=HLS.out (2*k+1) wr (Fr.refl NoF wr) j1 (by omega);have HCL1:=Hd HC1;clear HC1
    cases hl:lt (a' (2*k+1)) (a' k)with
    |false=>
     rw[hl]at HCL1 HDN;clear hl
     go_wp2_with fail
     refine HCL1.out.mono ?_;clear HCL1 hm1;rintro e w3⟨rfl,hf3⟩;have HF3:=Hd ((Fr.refl NoF wr).trans hf3 (λ_ q=>q.elim));clear hf3;go_wp2;go_returns;have hE:=HE.out;rw[HDN.out]at hE;simp only[Bool.false_eq_true,if_false]at hE;refine⟨?_,?_,HF.out.trans HF3.out (λ_ q=>q.elim)⟩
     .rw[<-hE];first|rfl|simp
     .rw[<-hE];exact HS.out.fr HR1.out HF3.out (λ_ _ q=>q)
    |true=>
     rw[hl]at HCL1 HDN;clear hl
     go_wp2_with fail
     refine HCL1.out.mono ?_;clear HCL1 hm1;rintro e w3⟨rfl,hf3⟩;obtain⟨rv2,hm2,HC2⟩:=HSW.out (2*k+1) w3 ((Fr.refl NoF wr).trans hf3 (λ_ q=>q.elim)) j1 (by omega);have HCS:=Hd HC2;have HF3:=Hd (HF.out.trans ((Fr.refl NoF wr).trans hf3 (λ_ q=>q.elim)) (λ_ q=>q.elim));clear hf3 HC2
     go_wp2_with fail
     refine HCS.out.mono ?_;clear HCS hm2;rintro e w4⟨rfl,hr4,hf4⟩;have HR4:=Hd (And.intro hr4 (HF3.out.trans hf4 (λi q=>.inl q)));clear hr4 hf4;go_wp2
     go_roundg (n-((2*k+1)))
     case measure=>omega
     case rel=>exact⟨(2*k+1),swp a' k ((2*k+1)),j1,rfl,by first|rfl|go_num|(simp;done)|(congr 1;push_cast;omega),HR4.out.1,by rw[<-HE.out,HDN.out];simp,HR4.out.2⟩
end
def fixFQ{α:Type}(lt:α->α->Bool)(a:Nat->α)(n i:Nat):Nat->α:=if i<(downF lt n a i).2 then(downF lt n a i).1 else upF lt (downF lt n a i).1 i
def remFQ{α:Type}(lt:α->α->Bool)(a:Nat->α)(n i:Nat):Nat->α:=if n=i then a else fixFQ lt (swp a i n) n i
section
variable{α:Type}{lt:α->α->Bool}{HR:World->(Nat->α)->Nat->(Nat->Prop)->Prop}{p:Addr}{enc:α->Value}{okP:(Nat->α)->Nat->α->Prop}(S:HeapSysQ lt HR p enc okP){w:World}{a:Nat->α}{n:Nat}{F:Nat->Prop}
include S
theorem heap_pushQ(h:HR w a n F){t:α}(ht:okP a n t):Calls prog 73 #[.iface 224 (.pointer (some p)),enc t] w λe w'=>e=.returned (.tuple #[])/\∃F',HR w' (upF lt (upd a n t) n) (n+1) F'/\Fr F w w'/\∀i,F' i->F i\/w.heap.size<=i:=by
 obtain⟨rv,hm,HC⟩:=S.push h ht;have HCL:=Hd HC;have HS:=Hd S;have hn:=S.small h;clear HC S h ht;generalize enc t=et at*;go_enter func73,ntmps73
 go_wp2_with fail
 refine HCL.out.mono ?_;clear HCL hm;rintro e w1⟨rfl,F1,hr1,hf1,hF1⟩;obtain⟨rv2,hm2,HC2⟩:=HS.out.len hr1;have HCL2:=Hd HC2;have HR1:=Hd (And.intro hr1 (And.intro hf1 hF1));clear HC2 hr1 hf1 hF1
 go_wp2_with fail
 refine HCL2.out.mono ?_;clear HCL2 hm2;rintro e w2⟨rfl,hf2⟩;have HU:=Hd (up_walkQ HS.out (HS.out.fr HR1.out.1 hf2 (λ_ _ q=>q)) (j:=n) (by omega));have HF2:=Hd hf2;clear hf2;have e1:((n+1:Nat):Int)-1=(n:Int):=by omega
 go_wp2_with fail
 refine HU.out.mono ?_;clear HU;rintro e w3⟨rfl,hr3,hf3⟩;have HR3:=Hd (And.intro hr3 hf3);clear hr3 hf3;go_wp2;go_returns;refine⟨rfl,F1,HR3.out.1,(HR1.out.2.1.trans HF2.out (λ_ q=>q.elim)).trans HR3.out.2 (λi q=>HR1.out.2.2 i q),HR1.out.2.2⟩
end
section
variable{α:Type}{lt:α->α->Bool}{a:Nat->α}{n:Nat}
theorem fix_heapQ(O:Ord lt){i:Nat}(hi:i<n)(h:GapHeap lt a n i):IsHeap lt (fixFQ lt a n i) n:=by
 have hd:=h.down O n a i (by omega) hi;have hg:=down_ge lt n a i (by omega) hi;unfold fixFQ;by_cases q:i<(downF lt n a i).2
 .rw[if_pos q];exact hd.2.1 (by omega)
 .rw[if_neg q,hg.2.1 (by omega)]
  exact UpHeap.up O a i hi (hd.1 (by omega))
theorem fix_memQ{i:Nat}(hi:i<n)(t:α):(∃k,k<n/\fixFQ lt a n i k=t)↔∃k,k<n/\a k=t:=by
 unfold fixFQ
 split
 .exact down_mem lt t n a i (by omega) hi
 .rw[up_mem lt t _ _ hi];exact down_mem lt t n a i (by omega) hi
theorem fix_outQ{i:Nat}(hi:i<n):∀k,n<=k->fixFQ lt a n i k=a k:=by
 intro k hk;unfold fixFQ
 split
 .exact down_out lt n a i (by omega) hi k hk
 .rw[up_out lt _ _ hi k hk];exact down_out lt n a i (by omega) hi k hk
theorem gap_updQ(O:Ord lt)(h:IsHeap lt a n)(i:Nat)(t:α):GapHeap lt (upd a i t) n i:=by
 refine⟨λk k1 k2 k3 k4=>?_,λk k1 k2 k3 k4=>?_⟩
 .rw[upd_other _ _ k3,upd_other _ _ k4];exact h k k1 k2
 .have hk:¬k=i:=by unfold par at k3;omega
  have hp:¬par i=i:=by unfold par;omega
  rw[upd_other _ _ hk,upd_other _ _ hp];have h1:=h k k1 k2;rw[k3]at h1;exact O.tr _ _ _ (h i k4 (by unfold par at k3;omega)) h1
theorem gap_swpQ(O:Ord lt)(h:IsHeap lt a (n+1)){i:Nat}(hi:i<n):GapHeap lt (swp a i n) n i:=by
 refine⟨λk k1 k2 k3 k4=>?_,λk k1 k2 k3 k4=>?_⟩
 .have e1:swp a i n k=a k:=by unfold swp;rw[if_neg k3,if_neg (by omega)]
  have e2:swp a i n (par k)=a (par k):=by unfold swp;rw[if_neg k4,if_neg (by unfold par;omega)]
  rw[e1,e2];exact h k k1 (by omega)
 .have hk:¬k=i:=by unfold par at k3;omega
  have e1:swp a i n k=a k:=by unfold swp;rw[if_neg hk,if_neg (by omega)]
  have e2:swp a i n (par i)=a (par i):=by unfold swp;rw[if_neg (by unfold par;omega),if_neg (by unfold par;omega)]
  rw[e1,e2];have h1:=h k k1 (by omega);rw[k3]at h1;exact O.tr _ _ _ (h i k4 (by omega)) h1
theorem rem_heapQ(O:Ord lt){i:Nat}(hi:i<=n)(h:IsHeap lt a (n+1)):IsHeap lt (remFQ lt a n i) n:=by
 unfold remFQ;by_cases q:n=i
 .rw[if_pos q];exact λk k1 k2=>h k k1 (by omega)
 .rw[if_neg q];exact fix_heapQ O (by omega) (gap_swpQ O h (by omega))
theorem rem_lastQ{i:Nat}(hi:i<=n):remFQ lt a n i n=a i:=by
 unfold remFQ;by_cases q:n=i
 .rw[if_pos q,q]
 .rw[if_neg q,fix_outQ (by omega) n (Nat.le_refl _)]
  unfold swp;rw[if_neg q,if_pos rfl]
theorem rem_memQ{β:Type}{f:α->β}{i:Nat}(hi:i<=n)(h:InjF f a (n+1))(t:α):(∃k,k<n/\remFQ lt a n i k=t)↔(∃k,k<n+1/\a k=t)/\¬f t=f (a i):=by
 have key:(∃k,k<n/\swp a i n k=t)↔(∃k,k<n+1/\a k=t)/\¬f t=f (a i):=by
  constructor
  .rintro⟨k,hk,rfl⟩
   by_cases e:k=i
   .have e1:swp a i n k=a n:=by unfold swp;rw[if_pos e]
    rw[e1];exact⟨⟨n,by omega,rfl⟩,λq=>by have:=h n i (by omega) (by omega) q;omega⟩
   .have e1:swp a i n k=a k:=by unfold swp;rw[if_neg e,if_neg (by omega)]
    rw[e1];exact⟨⟨k,by omega,rfl⟩,λq=>e (h k i (by omega) (by omega) q)⟩
  .rintro⟨⟨k,hk,rfl⟩,hne⟩
   have e:¬k=i:=λq=>hne (by rw[q])
   by_cases e2:k=n
   .subst e2
    exact⟨i,by omega,by unfold swp;rw[if_pos rfl]⟩
   .exact⟨k,by omega,by unfold swp;rw[if_neg e,if_neg e2]⟩
 unfold remFQ;by_cases q:n=i
 .rw[if_pos q,<-key]
  subst q;have e1:∀k,k<n->swp a n n k=a k:=λk hk=>by unfold swp;rw[if_neg (by omega),if_neg (by omega)]
  exact⟨λ⟨k,h1,h2⟩=>⟨k,h1,by rw[e1 k h1];exact h2⟩,λ⟨k,h1,h2⟩=>⟨k,h1,by rw[<-e1 k h1];exact h2⟩⟩
 .rw[if_neg q,<-key];exact fix_memQ (by omega) t
end
section
variable{α:Type}{lt:α->α->Bool}{HR:World->(Nat->α)->Nat->(Nat->Prop)->Prop}{p:Addr}{enc:α->Value}{okP:(Nat->α)->Nat->α->Prop}(S:HeapSysQ lt HR p enc okP){w:World}{a:Nat->α}{n:Nat}{F:Nat->Prop}
include S
theorem down_upQ{m:Nat}(h:HR w a m F)(hnm:n<=m){i:Nat}(hi:i<n):∃b:Bool,Hid (Calls prog 86 #[.iface 224 (.pointer (some p)),.int .i64 i,.int .i64 n] w λe w'=>e=.returned (.bool b)/\HR w' (downF lt n a i).1 m F/\Fr F w w')/\
  (b=true->fixFQ lt a n i=(downF lt n a i).1)/\Hid (b=false->∀w',HR w' (downF lt n a i).1 m F->Calls prog 90 #[.iface 224 (.pointer (some p)),.int .i64 i] w' λe w''=>e=.returned (.tuple #[])/\HR w'' (fixFQ lt a n i) m F/\Fr F w' w''):=by
 refine⟨decide (i<(downF lt n a i).2),down_walkQ S h hnm hi,λq=>?_,λq w' hr=>?_⟩
 .unfold fixFQ;rw[if_pos (by simpa using q)]
 .have e:fixFQ lt a n i=upF lt (downF lt n a i).1 i:=by unfold fixFQ;rw[if_neg (by simpa using q)]
  rw[e];exact up_walkQ S hr (by omega)
theorem heap_fixQ(h:HR w a n F){i:Nat}(hi:i<n):Calls prog 170 #[.iface 224 (.pointer (some p)),.int .i64 i] w λe w'=>e=.returned (.tuple #[])/\HR w' (fixFQ lt a n i) n F/\Fr F w w':=by
 obtain⟨rv,hm,HC⟩:=S.len h;have HCL:=Hd HC;have HS:=Hd S;have HH:=Hd h;clear HC S h;go_enter func170,ntmps170
 go_wp2_with fail
 refine HCL.out.mono ?_;clear HCL hm;rintro e w1⟨rfl,hf1⟩;obtain⟨b,HD,hb1,HU⟩:=down_upQ HS.out (HS.out.fr HH.out hf1 (λ_ _ q=>q)) (Nat.le_refl _) hi;have HB:=Hd hb1;have HF1:Hid (Fr F w w1):=hf1.mono (λ_ q=>q.elim);clear hb1 hf1
 cases b with
 |true=>
  go_wp2_with fail
  refine HD.out.mono ?_;rintro e w2⟨rfl,hr2,hf2⟩;have HR2:Hid (HR w2 (fixFQ lt a n i) n F/\Fr F w w2):=⟨by rw[HB.out (by first|rfl|trivial)];exact hr2,HF1.out.trans hf2 (λ_ q=>.inl q)⟩;clear hr2 hf2 HD HU HB;go_wp2;go_returns;exact⟨rfl,HR2.out⟩
 |false=>
  go_wp2_with fail
  refine HD.out.mono ?_;rintro e w2⟨rfl,hr2,hf2⟩;have HU2:=Hd (HU.out (by first|rfl|trivial) w2 hr2);have HF2:=Hd (HF1.out.trans hf2 (λ_ q=>.inl q));clear hr2 hf2 HD HU HB HF1
  go_wp2_with fail
  refine HU2.out.mono ?_;rintro e w3⟨rfl,hr3,hf3⟩;have HR3:=Hd (And.intro hr3 (HF2.out.trans hf3 (λ_ q=>.inl q)));clear hr3 hf3 HU2;go_wp2;go_returns;exact⟨rfl,HR3.out⟩
theorem heap_removeQ(h:HR w a (n+1) F){i:Nat}(hi:i<=n):Calls prog 164 #[.iface 224 (.pointer (some p)),.int .i64 i] w λe w'=>e=.returned (enc (a i))/\HR w' (remFQ lt a n i) n F/\Fr F w w':=by
 obtain⟨rv,hm,HC⟩:=S.len h;have hn:=S.small h;have HCL:=Hd HC;have HS:=Hd S;have HH:=Hd h;have HL:Hid (remFQ lt a n i n=a i):=rem_lastQ hi;have e1:((n+1:Nat):Int)-1=(n:Int):=by omega
 have KP:Hid (∀w1,HR w1 (remFQ lt a n i) (n+1) F->∃rv,(method 344 224 (.pointer (some p)) "Pop").run prog w1=.ok (244,rv) w1/\Calls prog 244 #[rv] w1 λe w'=>e=.returned (enc (a i))/\HR w' (remFQ lt a n i) n F/\Fr F w1 w'):=by
  intro w1 h1;rw[<-HL.out];exact HS.out.pop h1
 clear HC S h HL;generalize enc (a i)=et at KP⊢;by_cases hni:n=i
 .have HE:Hid (remFQ lt a n i=a):=by unfold Hid remFQ;rw[if_pos hni]
  have hb:((n:Int)==(i:Int))=true:=by simp;omega
  have hb2:((n:Int) !=(i:Int))=false:=by simp;omega
  obtain rfl:i=n:=hni.symm;go_enter func164,ntmps164
  go_wp2_with fail
  refine HCL.out.mono ?_;clear HCL hm;rintro e w1⟨rfl,hf1⟩;obtain⟨rv4,hm4,HC4⟩:=KP.out w1 (by rw[HE.out];exact HS.out.fr HH.out hf1 (λ_ _ q=>q));have HCL4:=Hd HC4;have HF1:Hid (Fr F w w1):=hf1.mono (λ_ q=>q.elim);clear HC4 hf1 KP HE
  go_wp2_with fail
  refine HCL4.out.mono ?_;clear HCL4 hm4;rintro e w4⟨rfl,hr4,hf4⟩;have HR4:=Hd (And.intro hr4 (HF1.out.trans hf4 (λi q=>.inl q)));clear hr4 hf4;go_wp2;go_returns;exact⟨rfl,HR4.out⟩
 .have HE:Hid (remFQ lt a n i=fixFQ lt (swp a i n) n i):=by unfold Hid remFQ;rw[if_neg hni]
  have hb:((n:Int)==(i:Int))=false:=by simp;omega
  have hb2:((n:Int) !=(i:Int))=true:=by simp;omega
  have hlt:i<n:=by omega
  go_enter func164,ntmps164
  go_wp2_with fail
  refine HCL.out.mono ?_;clear HCL hm;rintro e w1⟨rfl,hf1⟩;obtain⟨rv2,hm2,HC2⟩:=HS.out.swap (HS.out.fr HH.out hf1 (λ_ _ q=>q)) (i:=i) (j:=n) (by omega) (by omega);have HCL2:=Hd HC2;have HF1:Hid (Fr F w w1):=hf1.mono (λ_ q=>q.elim);clear HC2 hf1
  go_wp2_with fail
  refine HCL2.out.mono ?_;clear HCL2 hm2;rintro e w2⟨rfl,hr2,hf2⟩;obtain⟨b,HD,hb1,HU⟩:=down_upQ HS.out hr2 (n:=n) (by omega) hlt;have HB:=Hd hb1;have HF2:=Hd (HF1.out.trans hf2 (λ_ q=>.inl q));clear hb1 hf2 hr2 HF1
  cases b with
  |true=>
   go_wp2_with fail
   refine HD.out.mono ?_;rintro e w3⟨rfl,hr3,hf3⟩;obtain⟨rv4,hm4,HC4⟩:=KP.out w3 (by rw[HE.out,HB.out (by first|rfl|trivial)];exact hr3);have HCL4:=Hd HC4;have HF3:=Hd (HF2.out.trans hf3 (λ_ q=>.inl q));clear HC4 hf3 hr3 KP HE HD HU HB HF2
   go_wp2_with fail
   refine HCL4.out.mono ?_;clear HCL4 hm4;rintro e w4⟨rfl,hr4,hf4⟩;have HR4:=Hd (And.intro hr4 (HF3.out.trans hf4 (λi q=>.inl q)));clear hr4 hf4;go_wp2;go_returns;exact⟨rfl,HR4.out⟩
  |false=>
   go_wp2_with fail
   refine HD.out.mono ?_;rintro e w3⟨rfl,hr3,hf3⟩;have HU2:=Hd (HU.out (by first|rfl|trivial) w3 hr3);have HF3:=Hd (HF2.out.trans hf3 (λ_ q=>.inl q));clear hf3 hr3 HD HU HB HF2
   go_wp2_with fail
   refine HU2.out.mono ?_;rintro e w5⟨rfl,hr5,hf5⟩;obtain⟨rv4,hm4,HC4⟩:=KP.out w5 (by rw[HE.out];exact hr5);have HCL4:=Hd HC4;have HF5:=Hd (HF3.out.trans hf5 (λ_ q=>.inl q));clear HC4 hf5 hr5 KP HE HU2 HF3
   go_wp2_with fail
   refine HCL4.out.mono ?_;clear HCL4 hm4;rintro e w4⟨rfl,hr4,hf4⟩;have HR4:=Hd (And.intro hr4 (HF5.out.trans hf4 (λi q=>.inl q)));clear hr4 hf4;go_wp2;go_returns;exact⟨rfl,HR4.out⟩
end
end
end Go.Proofs.YtpkbkhffglikhaaGreatDoor
