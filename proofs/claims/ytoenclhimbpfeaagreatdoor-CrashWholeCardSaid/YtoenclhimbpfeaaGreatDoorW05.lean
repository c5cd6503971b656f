/- Part 5. -/
import Derived.Test.YtoenclhimbpfeaaGreatDoorW04
import Derived.Deep.RegionHeld3
import Derived.WideKeyEntry
namespace Go.Proofs.YtoenclhimbpfeaaGreatDoor
set_option linter.all false
set_option maxHeartbeats 16000000
set_option maxRecDepth 100000
section
open Go.Proofs.Tryz Go.RowKit
structure Th where
 x:Int
 a:Int
 b:Int
def cmpI(x y:Int):Int:=if x<y then-1 else if y<x then 1 else 0
def orI(p q r:Int):Int:=if p=0 then(if q=0 then r else q)else p
def cmpT(t u:Th):Int:=orI (cmpI t.a u.a) (cmpI t.b u.b) (cmpI t.x u.x)
def ltT(t u:Th):Bool:=decide (cmpT t u<0)
theorem vA(t u:Th):ltT t u=true↔(t.a<u.a\/(t.a=u.a/\(t.b<u.b\/(t.b=u.b/\t.x<u.x)))):=by
 unfold ltT cmpT orI cmpI;rw[decide_eq_true_eq];by_cases h1:t.a<u.a
 .simp[h1]
 .by_cases h2:u.a<t.a
  .simp[h1,h2];omega
  .have e1:t.a=u.a:=by omega
   by_cases h3:t.b<u.b
   .simp[e1,h3]
   .by_cases h4:u.b<t.b
    .simp[e1,h3,h4];omega
    .have e2:t.b=u.b:=by omega
     by_cases h5:t.x<u.x
     .simp[e1,e2,h5]
     .by_cases h6:u.x<t.x
      .simp[e1,e2,h5,h6]
      .simp[e1,e2,h5,h6]
theorem om(t u:Th):ltT t u=false↔¬(t.a<u.a\/(t.a=u.a/\(t.b<u.b\/(t.b=u.b/\t.x<u.x)))):=by
 rw[<-vA];simp
def i64(x:Int):Prop:=(Lit.int .i64 x).wf=true
section
variable{w w':World}
theorem yQ(z:Int)(w:World):Calls prog 276 #[.int .i64 z] w λe w'=>e=.returned (.bool false)/\w=w':=by
 go_enter func276,ntmps276;go_wp2;go_returns;exact⟨by simp,rfl⟩
theorem EZ(z:Int)(w:World):Calls prog 277 #[.int .i64 z] w λe w'=>e=.returned (.bool false)/\w=w':=by
 go_enter func277,ntmps277;go_wp2;go_returns;exact⟨by simp,rfl⟩
theorem D8(x y:Int)(w:World):Calls prog 274 #[.int .i64 x,.int .i64 y] w λe w'=>e=.returned (.int .i64 (cmpI x y))/\w=w':=by
 unfold cmpI;by_cases h1:x<y
 .rw[if_pos h1]
  go_enter func274,ntmps274
  go_wp2_with(go_at_call 276;refine(yQ _ _).mono ?_;rintro e w'⟨rfl,rfl⟩)
  go_returns;exact⟨rfl,rfl⟩
 .rw[if_neg h1]
  have h1':y<=x:=by omega
  by_cases h2:y<x
  .rw[if_pos h2]
   go_enter func274,ntmps274
   go_wp2_with(go_at_call 276;refine(yQ _ _).mono ?_;rintro e w'⟨rfl,rfl⟩)
   go_returns;exact⟨rfl,rfl⟩
  .rw[if_neg h2]
   have h2':x<=y:=by omega
   go_enter func274,ntmps274
   go_wp2_with(go_at_call 276;refine(yQ _ _).mono ?_;rintro e w'⟨rfl,rfl⟩)
   go_returns;exact⟨rfl,rfl⟩
theorem Ez(x y:Int)(w:World):Calls prog 275 #[.int .i64 x,.int .i64 y] w λe w'=>e=.returned (.int .i64 (cmpI x y))/\w=w':=by
 unfold cmpI;by_cases h1:x<y
 .rw[if_pos h1]
  go_enter func275,ntmps275
  go_wp2_with(go_at_call 277;refine(EZ _ _).mono ?_;rintro e w'⟨rfl,rfl⟩)
  go_returns;exact⟨rfl,rfl⟩
 .rw[if_neg h1]
  have h1':y<=x:=by omega
  by_cases h2:y<x
  .rw[if_pos h2]
   go_enter func275,ntmps275
   go_wp2_with(go_at_call 277;refine(EZ _ _).mono ?_;rintro e w'⟨rfl,rfl⟩)
   go_returns;exact⟨rfl,rfl⟩
  .rw[if_neg h2]
   have h2':x<=y:=by omega
   go_enter func275,ntmps275
   go_wp2_with(go_at_call 277;refine(EZ _ _).mono ?_;rintro e w'⟨rfl,rfl⟩)
   go_returns;exact⟨rfl,rfl⟩
theorem yV{g:Nat}{p q r:Int}(h0:w.cell? ⟨g,0,none⟩=some (.int .i64 p))(h1:w.cell? ⟨g,1,none⟩=some (.int .i64 q))(h2:w.cell? ⟨g,2,none⟩=some (.int .i64 r)):Calls prog 273 #[.slice (some ⟨g,0,none⟩) 3 3] w λe w'=>e=.returned (.int .i64 (orI p q r))/\w=w':=by
 have HC:Hid (∀k,k<3->w.cell? ⟨g,k,none⟩=some (.int .i64 (if k=0 then p else if k=1 then q else r))):=by
  intro k hk
  match k,hk with
  |0,_=>exact h0
  |1,_=>exact h1
  |2,_=>exact h2
 have hlt:g<w.heap.size:=World.block_lt_of_cell? (w:=w) (a:=⟨g,0,none⟩) h0;clear h0 h1 h2;go_enter func273,ntmps273;go_wp2
 go_loopw [8] (λi wr=>∃k:Nat,k<=3/\i=.int .i64 k/\wr=w/\Hid (orI p q r=if k=0 then orI p q r else if k=1 then(if q=0 then r else q)else if k=2 then r else 0)) (λi _=>3-(intOf i).toNat)
 case atStart=>exact⟨0,by omega,rfl,rfl,rfl⟩
 case round=>
  obtain⟨k,hk,rfl,rfl,HO⟩:=hrel;by_cases hlt3:k<3
  .have cy:=HC.out k hlt3
   generalize hy:(if k=0 then p else if k=1 then q else r)=y at cy;have HY:=Hd hy;clear hy;by_cases hz:y=0
   .subst hz
    go_wp2
    go_roundw
    case rel=>
     refine⟨k+1,by omega,by go_num,by first|rfl|trivial,?_⟩;have h1:=HO.out;have h2:=HY.out
     match k,hlt3 with
     |0,_=>
      have h2:p=0:=h2
      show orI p q r=(if q=0 then r else q)
      unfold orI;rw[if_pos h2]
     |1,_=>
      have h2:q=0:=h2;have h1:orI p q r=(if q=0 then r else q):=h1
      show orI p q r=r
      rw[h1,if_pos h2]
     |2,_=>
      have h2:r=0:=h2;have h1:orI p q r=r:=h1
      show orI p q r=0
      rw[h1,h2]
    case measure=>simp[intOf];omega
   .have HE:Hid (orI p q r=y):=by
     have h1:=HO.out;have h2:=HY.out
     match k,hlt3 with
     |0,_=>
      have h2:p=y:=h2;unfold Hid orI;rw[if_neg (by omega),h2]
     |1,_=>
      have h2:q=y:=h2;have h1:orI p q r=(if q=0 then r else q):=h1;unfold Hid;rw[h1,if_neg (by omega),h2]
     |2,_=>
      have h2:r=y:=h2;have h1:orI p q r=r:=h1;unfold Hid;rw[h1,h2]
    have hzb:(y==0)=false:=by simpa using hz
    have hzn:(y !=0)=true:=by simpa using hz
    clear hz HO HY;go_wp2;go_returns;exact⟨by rw[HE.out];rfl,rfl⟩
  .obtain rfl:k=3:=by omega
   have HE:Hid (orI p q r=0):=by have h1:=HO.out;exact h1
   clear HO;go_wp2;go_returns;exact⟨by rw[HE.out];rfl,rfl⟩
def thV(t:Th):Value:=.agg #[.int .i64 t.x,.int .i64 t.a,.int .i64 t.b]
theorem mt(t u:Th)(w:World):Calls prog 272 #[thV t,thV u] w λe w'=>e=.returned (.int .i64 (cmpT t u))/\Fr NoF w w':=by
 obtain⟨tx,ta,tb⟩:=t;obtain⟨ux,ua,ub⟩:=u;unfold thV;have HE:Hid (cmpT ⟨tx,ta,tb⟩ ⟨ux,ua,ub⟩=orI (cmpI ta ua) (cmpI tb ub) (cmpI tx ux)):=rfl;rw[HE.out];have HA:=Hd (λW=>D8 ta ua W);have HB:=Hd (λW=>D8 tb ub W);have HX:=Hd (λW=>Ez tx ux W);generalize cmpI ta ua=p at*;generalize cmpI tb ub=q at*;generalize cmpI tx ux=r at*;go_enter func272,ntmps272
 go_wp2_with fail
 have HBX:Hid (∀W,Fr NoF ((w.alloc (.cells #[.int .i64 tx,.int .i64 ta,.int .i64 tb] 277)).alloc (.cells #[.int .i64 ux,.int .i64 ua,.int .i64 ub] 277)) W->W.cell? ⟨w.heap.size,0,none⟩=some (.int .i64 tx)/\W.cell? ⟨w.heap.size,1,none⟩=some (.int .i64 ta)/\W.cell? ⟨w.heap.size,2,none⟩=some (.int .i64 tb)/\W.cell? ⟨w.heap.size+1,0,none⟩=some (.int .i64 ux)/\W.cell? ⟨w.heap.size+1,1,none⟩=some (.int .i64 ua)/\W.cell? ⟨w.heap.size+1,2,none⟩=some (.int .i64 ub)):=by
  intro W f
  have b1:Blk ((w.alloc (.cells #[.int .i64 tx,.int .i64 ta,.int .i64 tb] 277)).alloc (.cells #[.int .i64 ux,.int .i64 ua,.int .i64 ub] 277)) w.heap.size 3 (λi=>if i=0 then .int .i64 tx else if i=1 then .int .i64 ta else .int .i64 tb):=(Blk.new w #[.int .i64 tx,.int .i64 ta,.int .i64 tb] 277 3 _ _ rfl rfl (λi hi=>by
   match i,hi with
   |0,_=>rfl
   |1,_=>rfl
   |2,_=>rfl)).alloc _
  have b2:Blk ((w.alloc (.cells #[.int .i64 tx,.int .i64 ta,.int .i64 tb] 277)).alloc (.cells #[.int .i64 ux,.int .i64 ua,.int .i64 ub] 277)) (w.heap.size+1) 3 (λi=>if i=0 then .int .i64 ux else if i=1 then .int .i64 ua else .int .i64 ub):=Blk.new _ #[.int .i64 ux,.int .i64 ua,.int .i64 ub] 277 3 _ _ (by simp) rfl (λi hi=>by
   match i,hi with
   |0,_=>rfl
   |1,_=>rfl
   |2,_=>rfl)
  have c1:=b1.fr f (λq=>q);have c2:=b2.fr f (λq=>q);exact⟨c1.cell (i:=0) (by omega),c1.cell (i:=1) (by omega),c1.cell (i:=2) (by omega),c2.cell (i:=0) (by omega),c2.cell (i:=1) (by omega),c2.cell (i:=2) (by omega)⟩
 have HSZ:Hid (Fr NoF w ((w.alloc (.cells #[.int .i64 tx,.int .i64 ta,.int .i64 tb] 277)).alloc (.cells #[.int .i64 ux,.int .i64 ua,.int .i64 ub] 277))):=((Fr.refl NoF w).alloc _).alloc _;have hl1:w.heap.size<((w.alloc (.cells #[.int .i64 tx,.int .i64 ta,.int .i64 tb] 277)).alloc (.cells #[.int .i64 ux,.int .i64 ua,.int .i64 ub] 277)).heap.size:=by simp;omega
 have hl2:w.heap.size+1<((w.alloc (.cells #[.int .i64 tx,.int .i64 ta,.int .i64 tb] 277)).alloc (.cells #[.int .i64 ux,.int .i64 ua,.int .i64 ub] 277)).heap.size:=by simp
 generalize(w.alloc (.cells #[.int .i64 tx,.int .i64 ta,.int .i64 tb] 277)).alloc (.cells #[.int .i64 ux,.int .i64 ua,.int .i64 ub] 277)=wB at*;generalize w.heap.size+1=bU at*;generalize w.heap.size=bT at*
 have HOr:Hid (∀W,Fr NoF (wB.alloc (.cells #[.int .i64 p,.int .i64 q,.int .i64 r] 3)) W->Calls prog 273 #[.slice (some ⟨wB.heap.size,0,none⟩) 3 3] W λe w'=>e=.returned (.int .i64 (orI p q r))/\W=w'):=by
  intro W f
  have b1:Blk (wB.alloc (.cells #[.int .i64 p,.int .i64 q,.int .i64 r] 3)) wB.heap.size 3 (λi=>if i=0 then .int .i64 p else if i=1 then .int .i64 q else .int .i64 r):=Blk.new wB #[.int .i64 p,.int .i64 q,.int .i64 r] 3 3 _ _ rfl rfl (λi hi=>by
   match i,hi with
   |0,_=>rfl
   |1,_=>rfl
   |2,_=>rfl)
  have c1:=b1.fr f (λq=>q);exact yV (c1.cell (i:=0) (by omega)) (c1.cell (i:=1) (by omega)) (c1.cell (i:=2) (by omega))
 go_region_held3(λw'=>w'.cell? ⟨bT,0,none⟩=some (.int .i64 tx)/\w'.cell? ⟨bT,1,none⟩=some (.int .i64 ta)/\w'.cell? ⟨bT,2,none⟩=some (.int .i64 tb)/\w'.cell? ⟨bU,0,none⟩=some (.int .i64 ux)/\w'.cell? ⟨bU,1,none⟩=some (.int .i64 ua)/\w'.cell? ⟨bU,2,none⟩=some (.int .i64 ub))
  (exact HBX.out _ (by repeat(first|exact Fr.refl NoF _|apply Fr.drew|apply Fr.drewN|apply Fr.alloc)))
  (first
   |(go_at_call 274;(with_reducible refine(HA.out _).mono ?_);rintro e w'⟨rfl,rfl⟩)
   |(go_at_call 274;(with_reducible refine(HB.out _).mono ?_);rintro e w'⟨rfl,rfl⟩)
   |(go_at_call 275;(with_reducible refine(HX.out _).mono ?_);rintro e w'⟨rfl,rfl⟩)
   |(go_at_call 273;(with_reducible refine(HOr.out _ (by repeat(first|exact Fr.refl NoF _|apply Fr.drew|apply Fr.drewN))).mono ?_);rintro e w'⟨rfl,rfl⟩))
 all_goals
  go_wp2;go_returns;exact⟨rfl,by repeat(first|exact HSZ.out|apply Fr.drew|apply Fr.drewN|apply Fr.alloc)⟩
end
end
section
open Go.ChangeMaps Go.MapKept Go.Maps Go.RowKit
section
variable{P:Program}{t k e:TypeId}{kq eq:IntKind}{w w':World}{b c:Nat}{m:Int->Option Int}
theorem GM{ty:TypeId}{d:TypeDesc}(h:P.underlying ty=some d)(w:World):(underlying ty).run P w=.ok d w:=by
 unfold underlying;simp[go_sem,h]
theorem MpN.ofHeap(h:MpN P k e kq eq w b c m)(e':w'.heap[b]?=w.heap[b]?):MpN P k e kq eq w' b c m:=by
 obtain⟨D,⟨es,clock,hb,r⟩,r2⟩:=h;exact⟨D,⟨es,clock,by rw[e'];exact hb,r⟩,r2⟩
theorem fC{o o':Obj}(hb:w.heap[b]?=some o):Fr (λi=>i=b) w (setBlock w b o'):=
 ⟨rfl,rfl,rfl,by simp[setBlock],λi _ hi=>by simp only[setBlock];rw[Array.getElem?_setIfInBounds_ne (λq=>hi q.symm)]⟩
theorem fF{o o':Obj}(hb:w.heap[b]?=some o):(setBlock w b o').heap[b]?=some o':=by
 have hl:b<w.heap.size:=by
  rcases Nat.lt_or_ge b w.heap.size with h'|h'
  .exact h'
  .simp[Array.getElem?_eq_none h']at hb
 simp[setBlock,hl]
theorem nJ(K:Keyed P k)(ht:P.underlying t=some (.map k e)){z:Value}(hz:∀u:World,(zeroValue e).run P u=.ok z u){R:Value->Option (DataW Unit×List MemPlace)}{es:Array MapEntry}{clock:Nat}(hb:w.heap[b]?=some (.map es clock))(F:WideElems.Fit P k R es clock)
  {key:Value}{kl:Lit}(hkey:keyOf P k key=some kl)(val:Value):
  ∃(v0:Value) (st:Nat) (es1:Array MapEntry) (clock1:Nat) (es2:Array MapEntry) (clock2:Nat),(Instr.mapEntry t (.map (some b)) key).run P w=.ok (.tuple #[v0,goInt st]) (setBlock w b (.map es1 clock1))/\
   (∀w2:World,w2.heap[b]?=some (.map es1 clock1)->(Instr.entryStore t (.map (some b)) (goInt st) val).run P w2=.ok () (setBlock w2 b (.map es2 clock2)))/\
   (Instr.mapUpdate t (.map (some b)) key val).run P w=.ok () (setBlock w b (.map es2 clock2)):=by
 obtain⟨s1,s2,_⟩:=F.stamped;rcases K.find w hkey es.toList F.keys with⟨h1,h2⟩|⟨j,e0,h1,h2,h3⟩
 .have hidx:(es.push ⟨key,z,clock⟩).findIdx? (λe=>((e.born:Nat):Int)==((clock:Nat):Int))=some es.size:=by
   rw[WideElems.findIdx_arr];refine WideElems.findIdx_born (l:=(es.push ⟨key,z,clock⟩).toList) (j:=es.size) (e0:=⟨key,z,clock⟩) ?_ (by simp);rw[Array.toList_push,List.map_append];refine List.nodup_append.2 ⟨s2,by simp,λx hx y hy q=>?_⟩;obtain⟨e1,he1,rfl⟩:=List.mem_map.1 hx;have hy:y=clock:=by simpa using hy
   have:=s1 e1 he1;omega
  have hmod:(es.push ⟨key,z,clock⟩).modify es.size (λe=>{e with val:=val})=es.push ⟨key,val,clock⟩:=by
   apply Array.ext';rw[Array.toList_modify,Array.toList_push,Array.toList_push,<-Array.length_toList,WideElems.modify_last]
  refine⟨z,clock,es.push ⟨key,z,clock⟩,clock+1,es.push ⟨key,val,clock⟩,clock+1,?_,λw2 hw2=>?_,?_⟩
  .simp[Instr.mapEntry,Go.Proofs.YtoenclhimbpfeaaGreatDoor.GM ht,MapKept.run_getObj_map hb,K.check w false hkey,h1,hz,MapKept.run_setObj_map _ hb,Result.andThen,setBlock]
  .simp[Instr.entryStore,MapKept.run_getObj_map hw2,asInt,asIntOf,goInt,hidx,hmod,MapKept.run_setObj_map _ hw2,Result.andThen,setBlock]
  .simp[Instr.mapUpdate,Go.Proofs.YtoenclhimbpfeaaGreatDoor.GM ht,MapKept.run_getObj_map hb,K.check w false hkey,h1,MapKept.run_setObj_map _ hb,Result.andThen,setBlock]
 .have hj:es[j]?=some e0:=by simpa using h2
  have hsame:es.modify j (λe=>{e with key:=key})=es:=by
   apply Array.ext';rw[Array.toList_modify,modify_eq_set _ _ _ _ h2,show({e0 with key:=key}:MapEntry)=e0 from by rw[<-h3]];exact WideElems.set_self _ _ _ h2
  have hidx:es.findIdx? (λe=>((e.born:Nat):Int)==((e0.born:Nat):Int))=some j:=by
   rw[WideElems.findIdx_arr];exact WideElems.findIdx_born s2 h2
  have hmod:es.modify j (λe=>{e with val:=val})=es.modify j (λe'=>{e' with key:=key,val:=val}):=by
   apply Array.ext';rw[Array.toList_modify,Array.toList_modify,modify_eq_set _ _ _ _ h2,modify_eq_set _ _ _ _ h2,<-h3]
  refine⟨e0.val,e0.born,es,clock,es.modify j (λe'=>{e' with key:=key,val:=val}),clock,?_,λw2 hw2=>?_,?_⟩
  .simp[Instr.mapEntry,Go.Proofs.YtoenclhimbpfeaaGreatDoor.GM ht,MapKept.run_getObj_map hb,K.check w false hkey,h1,hj,h3,K.stays w hkey,hsame,MapKept.run_setObj_map _ hb,Result.andThen,setBlock]
  .simp[Instr.entryStore,MapKept.run_getObj_map hw2,asInt,asIntOf,goInt,hidx,hmod,MapKept.run_setObj_map _ hw2,Result.andThen,setBlock]
  .simp[Instr.mapUpdate,Go.Proofs.YtoenclhimbpfeaaGreatDoor.GM ht,MapKept.run_getObj_map hb,K.check w false hkey,h1,hj,h3,K.stays w hkey,MapKept.run_setObj_map _ hb,Result.andThen,setBlock]
theorem MpN.entry(M:MI P t k e kq eq)(h:MpN P k e kq eq w b c m)(hc:c<1000000){x y:Int}(hx:(Lit.int kq x).wf=true)(hy:(Lit.int eq y).wf=true):
  ∃(v0:Value) (st:Nat) (w1 w2:World),(Instr.mapEntry t (.map (some b)) (.int kq x)).run P w=.ok (.tuple #[v0,.int .i64 (st:Int)]) w1/\(Instr.entryStore t (.map (some b)) (.int .i64 (st:Int)) (.int eq y)).run P w1=.ok () w2/\
   Fr (λi=>i=b) w w1/\MpN P k e kq eq w2 b (if(m x).isSome then c else c+1) (bX m x (some y))/\Fr (λi=>i=b) w w2:=by
 obtain⟨D,h1,h2,h3⟩:=h;have K:=int_keyed M.uk;have hh1:=h1;obtain⟨es,clock,hb,F,hs,hD⟩:=hh1;obtain⟨v0,st,es1,clock1,es2,clock2,r1,r2,r3⟩:=nJ K M.ut M.z hb F (keyOf_int_mk M.uk hx) (.int eq y);obtain⟨w'',q1,q2,q3⟩:=h1.update K M.ut (by unfold maxLen;omega) (keyOf_int_mk M.uk hx) (plainElem_int M.ue hy);rw[r3]at q1;obtain rfl:setBlock w b (.map es2 clock2)=w'':=by injection q1
 have hb1:=fF (o':=.map es1 clock1) hb;have f1:=fC (o':=.map es1 clock1) hb;refine⟨v0,st,_,_,r1,r2 _ hb1,f1,?_,f1.trans (fC hb1) (λi q=>.inl q)⟩;refine(MpN.put_of M q2 (h1.tidy K) h2 h3 hx).ofHeap ?_;rw[fF hb1,fF hb]
theorem MpN.put_run(M:MI P t k e kq eq)(h:MpN P k e kq eq w b c m)(hc:c<1000000){x y:Int}(hx:(Lit.int kq x).wf=true)(hy:(Lit.int eq y).wf=true):
  ∃w',(Instr.mapUpdate t (.map (some b)) (.int kq x) (.int eq y)).run P w=.ok () w'/\MpN P k e kq eq w' b (if(m x).isSome then c else c+1) (bX m x (some y))/\Fr (λi=>i=b) w w':=by
 obtain⟨D,h1,h2,h3⟩:=h;have K:=int_keyed M.uk;have hh1:=h1;obtain⟨es,clock,hb,F,hs,hD⟩:=hh1;obtain⟨v0,st,es1,clock1,es2,clock2,r1,r2,r3⟩:=nJ K M.ut M.z hb F (keyOf_int_mk M.uk hx) (.int eq y);obtain⟨w'',q1,q2,q3⟩:=h1.update K M.ut (by unfold maxLen;omega) (keyOf_int_mk M.uk hx) (plainElem_int M.ue hy);rw[r3]at q1;obtain rfl:setBlock w b (.map es2 clock2)=w'':=by injection q1
 exact⟨_,r3,MpN.put_of M q2 (h1.tidy K) h2 h3 hx,fC hb⟩
theorem MpN.del_run(M:MI P t k e kq eq)(h:MpN P k e kq eq w b c m){x:Int}(hx:(Lit.int kq x).wf=true)(ty:TypeId):
  ∃w',(Builtin.delete_ #[t,k] ty #[.map (some b),.int kq x]).run P w=.ok (.tuple #[]) w'/\MpN P k e kq eq w' b (if(m x).isSome then c-1 else c) (bX m x none)/\Fr (λi=>i=b) w w':=by
 obtain⟨D,h1,h2,h3⟩:=h;have K:=int_keyed M.uk;obtain⟨w',r,q1,q2⟩:=h1.drop K M.ut (keyOf_int_mk M.uk hx) ty;exact⟨w',r,MpN.del_of q1 (h1.tidy K) h2 h3 hx,dT q2⟩
theorem GX{ops:Array Oper}{o:Oper}{a:Act}{Q:Exit->Act->World->Prop}{K:Act->World->Prop}{E:Prop}(M:MI P t k e kq eq)(h:MpN P k e kq eq w b c m)(hg:o.guard=none)(mo xo:Operand)(hop:o.op=Op.call {callee:=Callee.builtin Builtin.delete,args:=#[mo,xo],argTypes:=#[t,k]})(hm:a.eval mo=.map (some b)){x:Int}(hx:a.eval xo=.int kq x)(hw:(Lit.int kq x).wf=true)
  (hK:∀w',MpN P k e kq eq w' b (if(m x).isSome then c-1 else c) (bX m x none)->Fr (λi=>i=b) w w'->K (a.put o.dst (.tuple #[])) w'):
  if Region.wanted o (yielded ops a.tmps)=true then Oper.wp P o a w K Q else E:=by
 have hwn:Region.wanted o (yielded ops a.tmps)=true:=by simp[Region.wanted,hg]
 rw[if_pos hwn];obtain⟨w',hrun,r1,r2⟩:=h.del_run M hw o.type;unfold Oper.wp;simp[execOp,hop,resolve,invoke,builtin,hm,hx,hrun,Result.andThen];exact hK _ r1 r2
end
end
end Go.Proofs.YtoenclhimbpfeaaGreatDoor
