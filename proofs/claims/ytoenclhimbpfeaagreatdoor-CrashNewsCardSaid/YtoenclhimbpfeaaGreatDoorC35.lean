/- Part 35. -/
import Derived.Test.YtoenclhimbpfeaaGreatDoorC07
import Derived.WideKeyEntry
namespace Go.Proofs.YtoenclhimbpfeaaGreatDoor
set_option linter.all false
set_option maxHeartbeats 16000000
set_option maxRecDepth 100000
section
open Go.Proofs.Tryz Go.RowKit
structure Th where
 x:Int
 a:Int
 b:Int
def cmpI(x y:Int):Int:=if x<y then-1 else if y<x then 1 else 0
def orI(p q r:Int):Int:=if p=0 then(if q=0 then r else q)else p
def cmpT(t u:Th):Int:=orI (cmpI t.a u.a) (cmpI t.b u.b) (cmpI t.x u.x)
def ltT(t u:Th):Bool:=decide (cmpT t u<0)
theorem ltT_iff(t u:Th):ltT t u=true↔(t.a<u.a∨(t.a=u.a∧(t.b<u.b∨(t.b=u.b∧t.x<u.x)))):=by
 unfold ltT cmpT orI cmpI;rw[decide_eq_true_eq];by_cases h1:t.a<u.a
 .simp[h1]
 .by_cases h2:u.a<t.a
  .simp[h1,h2];omega
  .have e1:t.a=u.a:=by omega
   by_cases h3:t.b<u.b
   .simp[e1,h3]
   .by_cases h4:u.b<t.b
    .simp[e1,h3,h4];omega
    .have e2:t.b=u.b:=by omega
     by_cases h5:t.x<u.x
     .simp[e1,e2,h5]
     .by_cases h6:u.x<t.x
      .simp[e1,e2,h5,h6]
      .simp[e1,e2,h5,h6]
theorem ltT_not(t u:Th):ltT t u=false↔¬(t.a<u.a∨(t.a=u.a∧(t.b<u.b∨(t.b=u.b∧t.x<u.x)))):=by
 rw[<-ltT_iff];simp
def i64(x:Int):Prop:=(Lit.int .i64 x).wf=true
section
variable{w w':World}
theorem nan64(z:Int)(w:World):Calls prog 276 #[.int .i64 z] w fun e w'=>e=.returned (.bool false)∧w=w':=by
 go_enter func276,ntmps276;go_wp2;go_returns;exact⟨by simp,rfl⟩
theorem nanI(z:Int)(w:World):Calls prog 277 #[.int .i64 z] w fun e w'=>e=.returned (.bool false)∧w=w':=by
 go_enter func277,ntmps277;go_wp2;go_returns;exact⟨by simp,rfl⟩
theorem cmp64(x y:Int)(w:World):Calls prog 274 #[.int .i64 x,.int .i64 y] w fun e w'=>e=.returned (.int .i64 (cmpI x y))∧w=w':=by
 unfold cmpI;by_cases h1:x<y
 .rw[if_pos h1]
  go_enter func274,ntmps274
  go_wp2_with(go_at_call 276;refine(nan64 _ _).mono ?_;rintro e w'⟨rfl,rfl⟩)
  go_returns;exact⟨rfl,rfl⟩
 .rw[if_neg h1]
  have h1':y<=x:=by omega
  by_cases h2:y<x
  .rw[if_pos h2]
   go_enter func274,ntmps274
   go_wp2_with(go_at_call 276;refine(nan64 _ _).mono ?_;rintro e w'⟨rfl,rfl⟩)
   go_returns;exact⟨rfl,rfl⟩
  .rw[if_neg h2]
   have h2':x<=y:=by omega
   go_enter func274,ntmps274
   go_wp2_with(go_at_call 276;refine(nan64 _ _).mono ?_;rintro e w'⟨rfl,rfl⟩)
   go_returns;exact⟨rfl,rfl⟩
theorem cmpInt(x y:Int)(w:World):Calls prog 275 #[.int .i64 x,.int .i64 y] w fun e w'=>e=.returned (.int .i64 (cmpI x y))∧w=w':=by
 unfold cmpI;by_cases h1:x<y
 .rw[if_pos h1]
  go_enter func275,ntmps275
  go_wp2_with(go_at_call 277;refine(nanI _ _).mono ?_;rintro e w'⟨rfl,rfl⟩)
  go_returns;exact⟨rfl,rfl⟩
 .rw[if_neg h1]
  have h1':y<=x:=by omega
  by_cases h2:y<x
  .rw[if_pos h2]
   go_enter func275,ntmps275
   go_wp2_with(go_at_call 277;refine(nanI _ _).mono ?_;rintro e w'⟨rfl,rfl⟩)
   go_returns;exact⟨rfl,rfl⟩
  .rw[if_neg h2]
   have h2':x<=y:=by omega
   go_enter func275,ntmps275
   go_wp2_with(go_at_call 277;refine(nanI _ _).mono ?_;rintro e w'⟨rfl,rfl⟩)
   go_returns;exact⟨rfl,rfl⟩
theorem or_calls{g:Nat}{p q r:Int}(h0:w.cell? ⟨g,0,none⟩=some (.int .i64 p))(h1:w.cell? ⟨g,1,none⟩=some (.int .i64 q))(h2:w.cell? ⟨g,2,none⟩=some (.int .i64 r)):Calls prog 273 #[.slice (some ⟨g,0,none⟩) 3 3] w fun e w'=>e=.returned (.int .i64 (orI p q r))∧w=w':=by
 have HC:Hid (∀k,k<3->w.cell? ⟨g,k,none⟩=some (.int .i64 (if k=0 then p else if k=1 then q else r))):=by
  intro k hk
  match k,hk with
  |0,_=>exact h0
  |1,_=>exact h1
  |2,_=>exact h2
 have hlt:g<w.heap.size:=World.block_lt_of_cell? (w:=w) (a:=⟨g,0,none⟩) h0;clear h0 h1 h2;go_enter func273,ntmps273;go_wp2
 go_loopw [8] (fun i wr=>∃k:Nat,k<=3∧i=.int .i64 k∧wr=w∧Hid (orI p q r=if k=0 then orI p q r else if k=1 then(if q=0 then r else q)else if k=2 then r else 0)) (fun i _=>3-(intOf i).toNat)
 case atStart=>exact⟨0,by omega,rfl,rfl,rfl⟩
 case round=>
  obtain⟨k,hk,rfl,rfl,HO⟩:=hrel;by_cases hlt3:k<3
  .have cy:=HC.out k hlt3
   generalize hy:(if k=0 then p else if k=1 then q else r)=y at cy;have HY:=Hd hy;clear hy;by_cases hz:y=0
   .subst hz
    go_wp2
    go_roundw
    case rel=>
     refine⟨k+1,by omega,by go_num,by first|rfl|trivial,?_⟩;have h1:=HO.out;have h2:=HY.out
     match k,hlt3 with
     |0,_=>
      have h2:p=0:=h2
      show orI p q r=(if q=0 then r else q)
      unfold orI;rw[if_pos h2]
     |1,_=>
      have h2:q=0:=h2;have h1:orI p q r=(if q=0 then r else q):=h1
      show orI p q r=r
      rw[h1,if_pos h2]
     |2,_=>
      have h2:r=0:=h2;have h1:orI p q r=r:=h1
      show orI p q r=0
      rw[h1,h2]
    case measure=>simp[intOf];omega
   .have HE:Hid (orI p q r=y):=by
     have h1:=HO.out;have h2:=HY.out
     match k,hlt3 with
     |0,_=>
      have h2:p=y:=h2;unfold Hid orI;rw[if_neg (by omega),h2]
     |1,_=>
      have h2:q=y:=h2;have h1:orI p q r=(if q=0 then r else q):=h1;unfold Hid;rw[h1,if_neg (by omega),h2]
     |2,_=>
      have h2:r=y:=h2;have h1:orI p q r=r:=h1;unfold Hid;rw[h1,h2]
    have hzb:(y==0)=false:=by simpa using hz
    have hzn:(y !=0)=true:=by simpa using hz
    clear hz HO HY;go_wp2;go_returns;exact⟨by rw[HE.out];rfl,rfl⟩
  .obtain rfl:k=3:=by omega
   have HE:Hid (orI p q r=0):=by have h1:=HO.out;exact h1
   clear HO;go_wp2;go_returns;exact⟨by rw[HE.out];rfl,rfl⟩
def thV(t:Th):Value:=.agg #[.int .i64 t.x,.int .i64 t.a,.int .i64 t.b]
theorem compare_calls(t u:Th)(w:World):Calls prog 272 #[thV t,thV u] w fun e w'=>e=.returned (.int .i64 (cmpT t u))∧Fr NoF w w':=by
 obtain⟨tx,ta,tb⟩:=t;obtain⟨ux,ua,ub⟩:=u;unfold thV;have HE:Hid (cmpT ⟨tx,ta,tb⟩ ⟨ux,ua,ub⟩=orI (cmpI ta ua) (cmpI tb ub) (cmpI tx ux)):=rfl;rw[HE.out];have HA:=Hd (fun W=>cmp64 ta ua W);have HB:=Hd (fun W=>cmp64 tb ub W);have HX:=Hd (fun W=>cmpInt tx ux W);generalize cmpI ta ua=p at*;generalize cmpI tb ub=q at*;generalize cmpI tx ux=r at*;go_enter func272,ntmps272
 go_wp2_with fail
 have HBX:Hid (∀W,Fr NoF ((w.alloc (.cells #[.int .i64 tx,.int .i64 ta,.int .i64 tb] 277)).alloc (.cells #[.int .i64 ux,.int .i64 ua,.int .i64 ub] 277)) W->W.cell? ⟨w.heap.size,0,none⟩=some (.int .i64 tx)∧W.cell? ⟨w.heap.size,1,none⟩=some (.int .i64 ta)∧W.cell? ⟨w.heap.size,2,none⟩=some (.int .i64 tb)∧W.cell? ⟨w.heap.size+1,0,none⟩=some (.int .i64 ux)∧W.cell? ⟨w.heap.size+1,1,none⟩=some (.int .i64 ua)∧W.cell? ⟨w.heap.size+1,2,none⟩=some (.int .i64 ub)):=by
  intro W f
  have b1:Blk ((w.alloc (.cells #[.int .i64 tx,.int .i64 ta,.int .i64 tb] 277)).alloc (.cells #[.int .i64 ux,.int .i64 ua,.int .i64 ub] 277)) w.heap.size 3 (fun i=>if i=0 then .int .i64 tx else if i=1 then .int .i64 ta else .int .i64 tb):=(Blk.new w #[.int .i64 tx,.int .i64 ta,.int .i64 tb] 277 3 _ _ rfl rfl (fun i hi=>by
   match i,hi with
   |0,_=>rfl
   |1,_=>rfl
   |2,_=>rfl)).alloc _
  have b2:Blk ((w.alloc (.cells #[.int .i64 tx,.int .i64 ta,.int .i64 tb] 277)).alloc (.cells #[.int .i64 ux,.int .i64 ua,.int .i64 ub] 277)) (w.heap.size+1) 3 (fun i=>if i=0 then .int .i64 ux else if i=1 then .int .i64 ua else .int .i64 ub):=Blk.new _ #[.int .i64 ux,.int .i64 ua,.int .i64 ub] 277 3 _ _ (by simp) rfl (fun i hi=>by
   match i,hi with
   |0,_=>rfl
   |1,_=>rfl
   |2,_=>rfl)
  have c1:=b1.fr f (fun q=>q);have c2:=b2.fr f (fun q=>q);exact⟨c1.cell (i:=0) (by omega),c1.cell (i:=1) (by omega),c1.cell (i:=2) (by omega),c2.cell (i:=0) (by omega),c2.cell (i:=1) (by omega),c2.cell (i:=2) (by omega)⟩
 have HSZ:Hid (Fr NoF w ((w.alloc (.cells #[.int .i64 tx,.int .i64 ta,.int .i64 tb] 277)).alloc (.cells #[.int .i64 ux,.int .i64 ua,.int .i64 ub] 277))):=((Fr.refl NoF w).alloc _).alloc _;have hl1:w.heap.size<((w.alloc (.cells #[.int .i64 tx,.int .i64 ta,.int .i64 tb] 277)).alloc (.cells #[.int .i64 ux,.int .i64 ua,.int .i64 ub] 277)).heap.size:=by simp;omega
 have hl2:w.heap.size+1<((w.alloc (.cells #[.int .i64 tx,.int .i64 ta,.int .i64 tb] 277)).alloc (.cells #[.int .i64 ux,.int .i64 ua,.int .i64 ub] 277)).heap.size:=by simp
 generalize(w.alloc (.cells #[.int .i64 tx,.int .i64 ta,.int .i64 tb] 277)).alloc (.cells #[.int .i64 ux,.int .i64 ua,.int .i64 ub] 277)=wB at*;generalize w.heap.size+1=bU at*;generalize w.heap.size=bT at*
 have HOr:Hid (∀W,Fr NoF (wB.alloc (.cells #[.int .i64 p,.int .i64 q,.int .i64 r] 3)) W->Calls prog 273 #[.slice (some ⟨wB.heap.size,0,none⟩) 3 3] W fun e w'=>e=.returned (.int .i64 (orI p q r))∧W=w'):=by
  intro W f
  have b1:Blk (wB.alloc (.cells #[.int .i64 p,.int .i64 q,.int .i64 r] 3)) wB.heap.size 3 (fun i=>if i=0 then .int .i64 p else if i=1 then .int .i64 q else .int .i64 r):=Blk.new wB #[.int .i64 p,.int .i64 q,.int .i64 r] 3 3 _ _ rfl rfl (fun i hi=>by
   match i,hi with
   |0,_=>rfl
   |1,_=>rfl
   |2,_=>rfl)
  have c1:=b1.fr f (fun q=>q);exact or_calls (c1.cell (i:=0) (by omega)) (c1.cell (i:=1) (by omega)) (c1.cell (i:=2) (by omega))
 go_region_held3(fun w'=>w'.cell? ⟨bT,0,none⟩=some (.int .i64 tx)∧w'.cell? ⟨bT,1,none⟩=some (.int .i64 ta)∧w'.cell? ⟨bT,2,none⟩=some (.int .i64 tb)∧w'.cell? ⟨bU,0,none⟩=some (.int .i64 ux)∧w'.cell? ⟨bU,1,none⟩=some (.int .i64 ua)∧w'.cell? ⟨bU,2,none⟩=some (.int .i64 ub))
  (exact HBX.out _ (by repeat(first|exact Fr.refl NoF _|apply Fr.drew|apply Fr.drewN|apply Fr.alloc)))
  (first
   |(go_at_call 274;(with_reducible refine(HA.out _).mono ?_);rintro e w'⟨rfl,rfl⟩)
   |(go_at_call 274;(with_reducible refine(HB.out _).mono ?_);rintro e w'⟨rfl,rfl⟩)
   |(go_at_call 275;(with_reducible refine(HX.out _).mono ?_);rintro e w'⟨rfl,rfl⟩)
   |(go_at_call 273;(with_reducible refine(HOr.out _ (by repeat(first|exact Fr.refl NoF _|apply Fr.drew|apply Fr.drewN))).mono ?_);rintro e w'⟨rfl,rfl⟩))
 all_goals
  go_wp2;go_returns;exact⟨rfl,by repeat(first|exact HSZ.out|apply Fr.drew|apply Fr.drewN|apply Fr.alloc)⟩
end
end
section
open Go.ChangeMaps Go.MapKept Go.Maps Go.RowKit
section
variable{P:Program}{t k e:TypeId}{kq eq:IntKind}{w w':World}{b c:Nat}{m:Int->Option Int}
theorem run_und{ty:TypeId}{d:TypeDesc}(h:P.underlying ty=some d)(w:World):(underlying ty).run P w=.ok d w:=by
 unfold underlying;simp[go_sem,h]
theorem MpN.ofHeap(h:MpN P k e kq eq w b c m)(e':w'.heap[b]?=w.heap[b]?):MpN P k e kq eq w' b c m:=by
 obtain⟨D,⟨es,clock,hb,r⟩,r2⟩:=h;exact⟨D,⟨es,clock,by rw[e'];exact hb,r⟩,r2⟩
theorem fr_setBlock{o o':Obj}(hb:w.heap[b]?=some o):Fr (fun i=>i=b) w (setBlock w b o'):=
 ⟨rfl,rfl,rfl,by simp[setBlock],fun i _ hi=>by simp only[setBlock];rw[Array.getElem?_setIfInBounds_ne (fun q=>hi q.symm)]⟩
theorem at_setBlock{o o':Obj}(hb:w.heap[b]?=some o):(setBlock w b o').heap[b]?=some o':=by
 have hl:b<w.heap.size:=by
  rcases Nat.lt_or_ge b w.heap.size with h'|h'
  .exact h'
  .simp[Array.getElem?_eq_none h']at hb
 simp[setBlock,hl]
theorem two_steps(K:Keyed P k)(ht:P.underlying t=some (.map k e)){z:Value}(hz:∀u:World,(zeroValue e).run P u=.ok z u){R:Value->Option (DataW Unit×List MemPlace)}{es:Array MapEntry}{clock:Nat}(hb:w.heap[b]?=some (.map es clock))(F:WideElems.Fit P k R es clock)
  {key:Value}{kl:Lit}(hkey:keyOf P k key=some kl)(val:Value):
  ∃(v0:Value) (st:Nat) (es1:Array MapEntry) (clock1:Nat) (es2:Array MapEntry) (clock2:Nat),(Instr.mapEntry t (.map (some b)) key).run P w=.ok (.tuple #[v0,goInt st]) (setBlock w b (.map es1 clock1))∧
   (∀w2:World,w2.heap[b]?=some (.map es1 clock1)->(Instr.entryStore t (.map (some b)) (goInt st) val).run P w2=.ok () (setBlock w2 b (.map es2 clock2)))∧
   (Instr.mapUpdate t (.map (some b)) key val).run P w=.ok () (setBlock w b (.map es2 clock2)):=by
 obtain⟨s1,s2,_⟩:=F.stamped;rcases K.find w hkey es.toList F.keys with⟨h1,h2⟩|⟨j,e0,h1,h2,h3⟩
 .have hidx:(es.push ⟨key,z,clock⟩).findIdx? (fun e=>((e.born:Nat):Int)==((clock:Nat):Int))=some es.size:=by
   rw[WideElems.findIdx_arr];refine WideElems.findIdx_born (l:=(es.push ⟨key,z,clock⟩).toList) (j:=es.size) (e0:=⟨key,z,clock⟩) ?_ (by simp);rw[Array.toList_push,List.map_append];refine List.nodup_append.2 ⟨s2,by simp,fun x hx y hy q=>?_⟩;obtain⟨e1,he1,rfl⟩:=List.mem_map.1 hx;have hy:y=clock:=by simpa using hy
   have:=s1 e1 he1;omega
  have hmod:(es.push ⟨key,z,clock⟩).modify es.size (fun e=>{e with val:=val})=es.push ⟨key,val,clock⟩:=by
   apply Array.ext';rw[Array.toList_modify,Array.toList_push,Array.toList_push,<-Array.length_toList,WideElems.modify_last]
  refine⟨z,clock,es.push ⟨key,z,clock⟩,clock+1,es.push ⟨key,val,clock⟩,clock+1,?_,fun w2 hw2=>?_,?_⟩
  .simp[Instr.mapEntry,Go.Proofs.YtoenclhimbpfeaaGreatDoor.run_und ht,MapKept.run_getObj_map hb,K.check w false hkey,h1,hz,MapKept.run_setObj_map _ hb,Result.andThen,setBlock]
  .simp[Instr.entryStore,MapKept.run_getObj_map hw2,asInt,asIntOf,goInt,hidx,hmod,MapKept.run_setObj_map _ hw2,Result.andThen,setBlock]
  .simp[Instr.mapUpdate,Go.Proofs.YtoenclhimbpfeaaGreatDoor.run_und ht,MapKept.run_getObj_map hb,K.check w false hkey,h1,MapKept.run_setObj_map _ hb,Result.andThen,setBlock]
 .have hj:es[j]?=some e0:=by simpa using h2
  have hsame:es.modify j (fun e=>{e with key:=key})=es:=by
   apply Array.ext';rw[Array.toList_modify,modify_eq_set _ _ _ _ h2,show({e0 with key:=key}:MapEntry)=e0 from by rw[<-h3]];exact WideElems.set_self _ _ _ h2
  have hidx:es.findIdx? (fun e=>((e.born:Nat):Int)==((e0.born:Nat):Int))=some j:=by
   rw[WideElems.findIdx_arr];exact WideElems.findIdx_born s2 h2
  have hmod:es.modify j (fun e=>{e with val:=val})=es.modify j (fun e'=>{e' with key:=key,val:=val}):=by
   apply Array.ext';rw[Array.toList_modify,Array.toList_modify,modify_eq_set _ _ _ _ h2,modify_eq_set _ _ _ _ h2,<-h3]
  refine⟨e0.val,e0.born,es,clock,es.modify j (fun e'=>{e' with key:=key,val:=val}),clock,?_,fun w2 hw2=>?_,?_⟩
  .simp[Instr.mapEntry,Go.Proofs.YtoenclhimbpfeaaGreatDoor.run_und ht,MapKept.run_getObj_map hb,K.check w false hkey,h1,hj,h3,K.stays w hkey,hsame,MapKept.run_setObj_map _ hb,Result.andThen,setBlock]
  .simp[Instr.entryStore,MapKept.run_getObj_map hw2,asInt,asIntOf,goInt,hidx,hmod,MapKept.run_setObj_map _ hw2,Result.andThen,setBlock]
  .simp[Instr.mapUpdate,Go.Proofs.YtoenclhimbpfeaaGreatDoor.run_und ht,MapKept.run_getObj_map hb,K.check w false hkey,h1,hj,h3,K.stays w hkey,MapKept.run_setObj_map _ hb,Result.andThen,setBlock]
theorem MpN.entry(M:MI P t k e kq eq)(h:MpN P k e kq eq w b c m)(hc:c<1000000){x y:Int}(hx:(Lit.int kq x).wf=true)(hy:(Lit.int eq y).wf=true):
  ∃(v0:Value) (st:Nat) (w1 w2:World),(Instr.mapEntry t (.map (some b)) (.int kq x)).run P w=.ok (.tuple #[v0,.int .i64 (st:Int)]) w1∧(Instr.entryStore t (.map (some b)) (.int .i64 (st:Int)) (.int eq y)).run P w1=.ok () w2∧
   Fr (fun i=>i=b) w w1∧MpN P k e kq eq w2 b (if(m x).isSome then c else c+1) (updI m x (some y))∧Fr (fun i=>i=b) w w2:=by
 obtain⟨D,h1,h2,h3⟩:=h;have K:=int_keyed M.uk;have hh1:=h1;obtain⟨es,clock,hb,F,hs,hD⟩:=hh1;obtain⟨v0,st,es1,clock1,es2,clock2,r1,r2,r3⟩:=two_steps K M.ut M.z hb F (keyOf_int_mk M.uk hx) (.int eq y);obtain⟨w'',q1,q2,q3⟩:=h1.update K M.ut (by unfold maxLen;omega) (keyOf_int_mk M.uk hx) (plainElem_int M.ue hy);rw[r3]at q1;obtain rfl:setBlock w b (.map es2 clock2)=w'':=by injection q1
 have hb1:=at_setBlock (o':=.map es1 clock1) hb;have f1:=fr_setBlock (o':=.map es1 clock1) hb;refine⟨v0,st,_,_,r1,r2 _ hb1,f1,?_,f1.trans (fr_setBlock hb1) (fun i q=>.inl q)⟩;refine(MpN.put_of M q2 (h1.tidy K) h2 h3 hx).ofHeap ?_;rw[at_setBlock hb1,at_setBlock hb]
theorem MpN.put_run(M:MI P t k e kq eq)(h:MpN P k e kq eq w b c m)(hc:c<1000000){x y:Int}(hx:(Lit.int kq x).wf=true)(hy:(Lit.int eq y).wf=true):
  ∃w',(Instr.mapUpdate t (.map (some b)) (.int kq x) (.int eq y)).run P w=.ok () w'∧MpN P k e kq eq w' b (if(m x).isSome then c else c+1) (updI m x (some y))∧Fr (fun i=>i=b) w w':=by
 obtain⟨D,h1,h2,h3⟩:=h;have K:=int_keyed M.uk;have hh1:=h1;obtain⟨es,clock,hb,F,hs,hD⟩:=hh1;obtain⟨v0,st,es1,clock1,es2,clock2,r1,r2,r3⟩:=two_steps K M.ut M.z hb F (keyOf_int_mk M.uk hx) (.int eq y);obtain⟨w'',q1,q2,q3⟩:=h1.update K M.ut (by unfold maxLen;omega) (keyOf_int_mk M.uk hx) (plainElem_int M.ue hy);rw[r3]at q1;obtain rfl:setBlock w b (.map es2 clock2)=w'':=by injection q1
 exact⟨_,r3,MpN.put_of M q2 (h1.tidy K) h2 h3 hx,fr_setBlock hb⟩
theorem MpN.del_run(M:MI P t k e kq eq)(h:MpN P k e kq eq w b c m){x:Int}(hx:(Lit.int kq x).wf=true)(ty:TypeId):
  ∃w',(Builtin.delete_ #[t,k] ty #[.map (some b),.int kq x]).run P w=.ok (.tuple #[]) w'∧MpN P k e kq eq w' b (if(m x).isSome then c-1 else c) (updI m x none)∧Fr (fun i=>i=b) w w':=by
 obtain⟨D,h1,h2,h3⟩:=h;have K:=int_keyed M.uk;obtain⟨w',r,q1,q2⟩:=h1.drop K M.ut (keyOf_int_mk M.uk hx) ty;exact⟨w',r,MpN.del_of q1 (h1.tidy K) h2 h3 hx,turned_fr q2⟩
theorem delS{ops:Array Oper}{o:Oper}{a:Act}{Q:Exit->Act->World->Prop}{K:Act->World->Prop}{E:Prop}(M:MI P t k e kq eq)(h:MpN P k e kq eq w b c m)(hg:o.guard=none)(mo xo:Operand)(hop:o.op=Op.call {callee:=Callee.builtin Builtin.delete,args:=#[mo,xo],argTypes:=#[t,k]})(hm:a.eval mo=.map (some b)){x:Int}(hx:a.eval xo=.int kq x)(hw:(Lit.int kq x).wf=true)
  (hK:∀w',MpN P k e kq eq w' b (if(m x).isSome then c-1 else c) (updI m x none)->Fr (fun i=>i=b) w w'->K (a.put o.dst (.tuple #[])) w'):
  if Region.wanted o (yielded ops a.tmps)=true then Oper.wp P o a w K Q else E:=by
 have hwn:Region.wanted o (yielded ops a.tmps)=true:=by simp[Region.wanted,hg]
 rw[if_pos hwn];obtain⟨w',hrun,r1,r2⟩:=h.del_run M hw o.type;unfold Oper.wp;simp[execOp,hop,resolve,invoke,builtin,hm,hx,hrun,Result.andThen];exact hK _ r1 r2
end
end
section
open Go.Proofs.Tryz Go.RowKit
section
variable{hty:TypeId}{gLn gLs gSw gPu gPo:FuncId}{α:Type}{lt:α->α->Bool}{a:Nat->α}{n:Nat}
theorem fix_heap(O:Ord lt){i:Nat}(hi:i<n)(h:GapHeap lt a n i):IsHeap lt (fixF lt a n i) n:=by
 have hd:=h.down O n a i (by omega) hi;have hg:=down_ge lt n a i (by omega) hi;unfold fixF;by_cases q:i<(downF lt n a i).2
 .rw[if_pos q];exact hd.2.1 (by omega)
 .rw[if_neg q,hg.2.1 (by omega)]
  exact UpHeap.up O a i hi (hd.1 (by omega))
theorem fix_mem{i:Nat}(hi:i<n)(t:α):(∃k,k<n∧fixF lt a n i k=t)↔∃k,k<n∧a k=t:=by
 unfold fixF
 split
 .exact down_mem lt t n a i (by omega) hi
 .rw[up_mem lt t _ _ hi];exact down_mem lt t n a i (by omega) hi
theorem fix_out{i:Nat}(hi:i<n):∀k,n<=k->fixF lt a n i k=a k:=by
 intro k hk;unfold fixF
 split
 .exact down_out lt n a i (by omega) hi k hk
 .rw[up_out lt _ _ hi k hk];exact down_out lt n a i (by omega) hi k hk
theorem gap_upd(O:Ord lt)(h:IsHeap lt a n)(i:Nat)(t:α):GapHeap lt (upd a i t) n i:=by
 refine⟨fun k k1 k2 k3 k4=>?_,fun k k1 k2 k3 k4=>?_⟩
 .rw[upd_other _ _ k3,upd_other _ _ k4];exact h k k1 k2
 .have hk:¬k=i:=by unfold par at k3;omega
  have hp:¬par i=i:=by unfold par;omega
  rw[upd_other _ _ hk,upd_other _ _ hp];have h1:=h k k1 k2;rw[k3]at h1;exact O.tr _ _ _ (h i k4 (by unfold par at k3;omega)) h1
theorem gap_swp(O:Ord lt)(h:IsHeap lt a (n+1)){i:Nat}(hi:i<n):GapHeap lt (swp a i n) n i:=by
 refine⟨fun k k1 k2 k3 k4=>?_,fun k k1 k2 k3 k4=>?_⟩
 .have e1:swp a i n k=a k:=by unfold swp;rw[if_neg k3,if_neg (by omega)]
  have e2:swp a i n (par k)=a (par k):=by unfold swp;rw[if_neg k4,if_neg (by unfold par;omega)]
  rw[e1,e2];exact h k k1 (by omega)
 .have hk:¬k=i:=by unfold par at k3;omega
  have e1:swp a i n k=a k:=by unfold swp;rw[if_neg hk,if_neg (by omega)]
  have e2:swp a i n (par i)=a (par i):=by unfold swp;rw[if_neg (by unfold par;omega),if_neg (by unfold par;omega)]
  rw[e1,e2];have h1:=h k k1 (by omega);rw[k3]at h1;exact O.tr _ _ _ (h i k4 (by omega)) h1
theorem rem_heap(O:Ord lt){i:Nat}(hi:i<=n)(h:IsHeap lt a (n+1)):IsHeap lt (remF lt a n i) n:=by
 unfold remF;by_cases q:n=i
 .rw[if_pos q];exact fun k k1 k2=>h k k1 (by omega)
 .rw[if_neg q];exact fix_heap O (by omega) (gap_swp O h (by omega))
theorem rem_last{i:Nat}(hi:i<=n):remF lt a n i n=a i:=by
 unfold remF;by_cases q:n=i
 .rw[if_pos q,q]
 .rw[if_neg q,fix_out (by omega) n (Nat.le_refl _)]
  unfold swp;rw[if_neg q,if_pos rfl]
theorem rem_inj1{β:Type}{f:α->β}{i:Nat}(hi:i<=n)(h:InjF f a (n+1)):InjF f (swp a i n) (n+1):=swp_inj (by omega) (by omega) h
theorem rem_mem{β:Type}{f:α->β}{i:Nat}(hi:i<=n)(h:InjF f a (n+1))(t:α):(∃k,k<n∧remF lt a n i k=t)↔(∃k,k<n+1∧a k=t)∧¬f t=f (a i):=by
 have key:(∃k,k<n∧swp a i n k=t)↔(∃k,k<n+1∧a k=t)∧¬f t=f (a i):=by
  constructor
  .rintro⟨k,hk,rfl⟩
   by_cases e:k=i
   .have e1:swp a i n k=a n:=by unfold swp;rw[if_pos e]
    rw[e1];exact⟨⟨n,by omega,rfl⟩,fun q=>by have:=h n i (by omega) (by omega) q;omega⟩
   .have e1:swp a i n k=a k:=by unfold swp;rw[if_neg e,if_neg (by omega)]
    rw[e1];exact⟨⟨k,by omega,rfl⟩,fun q=>e (h k i (by omega) (by omega) q)⟩
  .rintro⟨⟨k,hk,rfl⟩,hne⟩
   have e:¬k=i:=fun q=>hne (by rw[q])
   by_cases e2:k=n
   .subst e2
    exact⟨i,by omega,by unfold swp;rw[if_pos rfl]⟩
   .exact⟨k,by omega,by unfold swp;rw[if_neg e,if_neg e2]⟩
 unfold remF;by_cases q:n=i
 .rw[if_pos q,<-key]
  subst q;have e1:∀k,k<n->swp a n n k=a k:=fun k hk=>by unfold swp;rw[if_neg (by omega),if_neg (by omega)]
  exact⟨fun⟨k,h1,h2⟩=>⟨k,h1,by rw[e1 k h1];exact h2⟩,fun⟨k,h1,h2⟩=>⟨k,h1,by rw[<-e1 k h1];exact h2⟩⟩
 .rw[if_neg q,<-key];exact fix_mem (by omega) t
end
section
variable{hty:TypeId}{gLn gLs gSw gPu gPo:FuncId}{α:Type}{lt:α->α->Bool}{HR:World->(Nat->α)->Nat->(Nat->Prop)->Prop}{p:Addr}{enc:α->Value}{okP:(Nat->α)->Nat->α->Prop}(S:HeapSys hty gLn gLs gSw gPu gPo lt HR p enc okP){w:World}{a:Nat->α}{n:Nat}{F:Nat->Prop}
include S
theorem down_up{m:Nat}(h:HR w a m F)(hnm:n<=m){i:Nat}(hi:i<n):∃b:Bool,Hid (Calls prog 105 #[.iface hty (.pointer (some p)),.int .i64 i,.int .i64 n] w fun e w'=>e=.returned (.bool b)∧HR w' (downF lt n a i).1 m F∧Fr F w w')∧
  (b=true->fixF lt a n i=(downF lt n a i).1)∧Hid (b=false->∀w',HR w' (downF lt n a i).1 m F->Calls prog 109 #[.iface hty (.pointer (some p)),.int .i64 i] w' fun e w''=>e=.returned (.tuple #[])∧HR w'' (fixF lt a n i) m F∧Fr F w' w''):=by
 refine⟨decide (i<(downF lt n a i).2),down_walk S h hnm hi,fun q=>?_,fun q w' hr=>?_⟩
 .unfold fixF;rw[if_pos (by simpa using q)]
 .have e:fixF lt a n i=upF lt (downF lt n a i).1 i:=by unfold fixF;rw[if_neg (by simpa using q)]
  rw[e];exact up_walk S hr (by omega)
theorem heap_fix(h:HR w a n F){i:Nat}(hi:i<n):Calls prog 202 #[.iface hty (.pointer (some p)),.int .i64 i] w fun e w'=>e=.returned (.tuple #[])∧HR w' (fixF lt a n i) n F∧Fr F w w':=by
 obtain⟨rv,hm,HC⟩:=S.len h;have HCL:=Hd HC;have HS:=Hd S;obtain⟨oL,oI,oS,oP,oQ⟩:=S.own;have HH:=Hd h;clear HC S h;go_enter func202,ntmps202
 go_wp2_with fail
 refine HCL.out.mono ?_;clear HCL hm;rintro e w1⟨rfl,hf1⟩;obtain⟨b,HD,hb1,HU⟩:=down_up HS.out (HS.out.fr HH.out hf1 (fun _ _ q=>q)) (Nat.le_refl _) hi;have HB:=Hd hb1;have HF1:Hid (Fr F w w1):=hf1.mono (fun _ q=>q.elim);clear hb1 hf1
 cases b with
 |true=>
  go_wp2_with fail
  refine HD.out.mono ?_;rintro e w2⟨rfl,hr2,hf2⟩;have HR2:Hid (HR w2 (fixF lt a n i) n F∧Fr F w w2):=⟨by rw[HB.out (by first|rfl|trivial)];exact hr2,HF1.out.trans hf2 (fun _ q=>.inl q)⟩;clear hr2 hf2 HD HU HB;go_wp2;go_returns;exact⟨rfl,HR2.out⟩
 |false=>
  go_wp2_with fail
  refine HD.out.mono ?_;rintro e w2⟨rfl,hr2,hf2⟩;have HU2:=Hd (HU.out (by first|rfl|trivial) w2 hr2);have HF2:=Hd (HF1.out.trans hf2 (fun _ q=>.inl q));clear hr2 hf2 HD HU HB HF1
  go_wp2_with fail
  refine HU2.out.mono ?_;rintro e w3⟨rfl,hr3,hf3⟩;have HR3:=Hd (And.intro hr3 (HF2.out.trans hf3 (fun _ q=>.inl q)));clear hr3 hf3 HU2;go_wp2;go_returns;exact⟨rfl,HR3.out⟩
theorem heap_remove(h:HR w a (n+1) F){i:Nat}(hi:i<=n):Calls prog 196 #[.iface hty (.pointer (some p)),.int .i64 i] w fun e w'=>e=.returned (enc (a i))∧HR w' (remF lt a n i) n F∧Fr F w w':=by
 obtain⟨rv,hm,HC⟩:=S.len h;have hn:=S.small h;have HCL:=Hd HC;have HS:=Hd S;obtain⟨oL,oI,oS,oP,oQ⟩:=S.own;have HH:=Hd h;have HL:Hid (remF lt a n i n=a i):=rem_last hi;have e1:((n+1:Nat):Int)-1=(n:Int):=by omega
 have KP:Hid (∀w1,HR w1 (remF lt a n i) (n+1) F->∃rv,(method 390 hty (.pointer (some p)) "Pop").run prog w1=.ok (gPo,rv) w1∧Calls prog gPo #[rv] w1 fun e w'=>e=.returned (enc (a i))∧HR w' (remF lt a n i) n F∧Fr F w1 w'):=by
  intro w1 h1;rw[<-HL.out];exact HS.out.pop h1
 clear HC S h HL;generalize enc (a i)=et at KP⊢;by_cases hni:n=i
 .have HE:Hid (remF lt a n i=a):=by unfold Hid remF;rw[if_pos hni]
  have hb:((n:Int)==(i:Int))=true:=by simp;omega
  have hb2:((n:Int) !=(i:Int))=false:=by simp;omega
  obtain rfl:i=n:=hni.symm;go_enter func196,ntmps196
  go_wp2_with fail
  refine HCL.out.mono ?_;clear HCL hm;rintro e w1⟨rfl,hf1⟩;obtain⟨rv4,hm4,HC4⟩:=KP.out w1 (by rw[HE.out];exact HS.out.fr HH.out hf1 (fun _ _ q=>q));have HCL4:=Hd HC4;have HF1:Hid (Fr F w w1):=hf1.mono (fun _ q=>q.elim);clear HC4 hf1 KP HE
  go_wp2_with fail
  refine HCL4.out.mono ?_;clear HCL4 hm4;rintro e w4⟨rfl,hr4,hf4⟩;have HR4:=Hd (And.intro hr4 (HF1.out.trans hf4 (fun i q=>.inl q)));clear hr4 hf4;go_wp2;go_returns;exact⟨rfl,HR4.out⟩
 .have HE:Hid (remF lt a n i=fixF lt (swp a i n) n i):=by unfold Hid remF;rw[if_neg hni]
  have hb:((n:Int)==(i:Int))=false:=by simp;omega
  have hb2:((n:Int) !=(i:Int))=true:=by simp;omega
  have hlt:i<n:=by omega
  go_enter func196,ntmps196
  go_wp2_with fail
  refine HCL.out.mono ?_;clear HCL hm;rintro e w1⟨rfl,hf1⟩;obtain⟨rv2,hm2,HC2⟩:=HS.out.swap (HS.out.fr HH.out hf1 (fun _ _ q=>q)) (i:=i) (j:=n) (by omega) (by omega);have HCL2:=Hd HC2;have HF1:Hid (Fr F w w1):=hf1.mono (fun _ q=>q.elim);clear HC2 hf1
  go_wp2_with fail
  refine HCL2.out.mono ?_;clear HCL2 hm2;rintro e w2⟨rfl,hr2,hf2⟩;obtain⟨b,HD,hb1,HU⟩:=down_up HS.out hr2 (n:=n) (by omega) hlt;have HB:=Hd hb1;have HF2:=Hd (HF1.out.trans hf2 (fun _ q=>.inl q));clear hb1 hf2 hr2 HF1
  cases b with
  |true=>
   go_wp2_with fail
   refine HD.out.mono ?_;rintro e w3⟨rfl,hr3,hf3⟩;obtain⟨rv4,hm4,HC4⟩:=KP.out w3 (by rw[HE.out,HB.out (by first|rfl|trivial)];exact hr3);have HCL4:=Hd HC4;have HF3:=Hd (HF2.out.trans hf3 (fun _ q=>.inl q));clear HC4 hf3 hr3 KP HE HD HU HB HF2
   go_wp2_with fail
   refine HCL4.out.mono ?_;clear HCL4 hm4;rintro e w4⟨rfl,hr4,hf4⟩;have HR4:=Hd (And.intro hr4 (HF3.out.trans hf4 (fun i q=>.inl q)));clear hr4 hf4;go_wp2;go_returns;exact⟨rfl,HR4.out⟩
  |false=>
   go_wp2_with fail
   refine HD.out.mono ?_;rintro e w3⟨rfl,hr3,hf3⟩;have HU2:=Hd (HU.out (by first|rfl|trivial) w3 hr3);have HF3:=Hd (HF2.out.trans hf3 (fun _ q=>.inl q));clear hf3 hr3 HD HU HB HF2
   go_wp2_with fail
   refine HU2.out.mono ?_;rintro e w5⟨rfl,hr5,hf5⟩;obtain⟨rv4,hm4,HC4⟩:=KP.out w5 (by rw[HE.out];exact hr5);have HCL4:=Hd HC4;have HF5:=Hd (HF3.out.trans hf5 (fun _ q=>.inl q));clear HC4 hf5 hr5 KP HE HU2 HF3
   go_wp2_with fail
   refine HCL4.out.mono ?_;clear HCL4 hm4;rintro e w4⟨rfl,hr4,hf4⟩;have HR4:=Hd (And.intro hr4 (HF5.out.trans hf4 (fun i q=>.inl q)));clear hr4 hf4;go_wp2;go_returns;exact⟨rfl,HR4.out⟩
end
end
section
open Go.Maps Go.Proofs.Tryz Go.RowKit
def thOk(t:Th):Prop:=i64 t.x∧i64 t.a∧i64 t.b
def thF(a:Nat->Th)(i:Nat):Value:=if i%3=0 then .int .i64 (a (i/3)).x else if i%3=1 then .int .i64 (a (i/3)).a else .int .i64 (a (i/3)).b
theorem thF_0(a:Nat->Th)(k:Nat):thF a (k*3)=.int .i64 (a k).x:=by
 unfold thF;rw[if_pos (by omega),show k*3/3=k from by omega]
theorem thF_1(a:Nat->Th)(k:Nat):thF a (k*3+1)=.int .i64 (a k).a:=by
 unfold thF;rw[if_neg (by omega),if_pos (by omega),show(k*3+1)/3=k from by omega]
theorem thF_2(a:Nat->Th)(k:Nat):thF a (k*3+2)=.int .i64 (a k).b:=by
 unfold thF;rw[if_neg (by omega),if_neg (by omega),show(k*3+2)/3=k from by omega]
theorem thF_set(a:Nat->Th)(k:Nat)(t:Th):upd (upd (upd (thF a) (k*3) (.int .i64 t.x)) (k*3+1) (.int .i64 t.a)) (k*3+2) (.int .i64 t.b)=thF (upd a k t):=by
 funext j
 by_cases e2:j=k*3+2
 .subst e2;rw[upd_same,thF_2,upd_same]
 .rw[upd_other _ _ e2]
  by_cases e1:j=k*3+1
  .subst e1;rw[upd_same,thF_1,upd_same]
  .rw[upd_other _ _ e1]
   by_cases e0:j=k*3
   .subst e0;rw[upd_same,thF_0,upd_same]
   .rw[upd_other _ _ e0]
    unfold thF;rw[upd_other _ _ (by omega:¬j/3=k)]
theorem swp_upd{α:Type}(a:Nat->α)(i j:Nat):upd (upd a i (a j)) j (a i)=swp a i j:=by
 funext k
 unfold upd swp;by_cases e1:k=j
 .subst e1
  by_cases e2:k=i
  .rw[if_pos rfl,if_pos e2,e2]
  .rw[if_pos rfl,if_neg e2,if_pos rfl]
 .rw[if_neg e1]
  by_cases e2:k=i
  .rw[if_pos e2,if_pos e2]
  .rw[if_neg e2,if_neg e2,if_neg e1]
theorem SlF.snoc3{w:World}{e:TypeId}{v:Value}{c:Nat->Value}{k:Nat}{u1 u2 u3:Value}(h:w.ownsRow 0 e 3 v (k+1) ((List.range (k*3)).map c++[u1,u2,u3])):SlF w e 3 v (k+1) (upd (upd (upd c (k*3) u1) (k*3+1) u2) (k*3+2) u3):=by
 unfold SlF;rw[show(k+1)*3=k*3+2+1 from by omega,<-range_snoc,<-range_snoc,<-range_snoc,List.append_assoc,List.append_assoc];exact h
theorem MIq:MI prog 185 3 3 .i64 .i64:=⟨underlying185,underlying3,underlying3,fun w=>Tryz.zeroValue3 w⟩
def MQ(w:World)(mo:Option Nat)(n:Nat)(g:Int->Option Int):Prop:=match mo with
 |none=>n=0∧∀x,g x=none
 |some mb=>MpN prog 3 3 .i64 .i64 w mb n g
def qH(lv:Value)(mo:Option Nat)(i:Nat):Value:=if i=0 then lv else .map mo
structure QC(w:World)(qb:Nat)(a:Nat->Th)(n:Nat)(lv:Value)(mo:Option Nat)(g:Int->Option Int):Prop where
 hd:Blk w qb 2 (qH lv mo)
 li:SlF w 277 3 lv n (thF a)
 mp:MQ w mo n g
 pl:∀x k,g x=some k↔∃j:Nat,k=(j:Int)∧j<n∧(a j).x=x
 ok:∀k,k<n->thOk (a k)
 n1:∀b,lv.ownBlock=some b->¬b=qb∧¬mo=some b
 n2:∀b,mo=some b->¬b=qb
 sm:n<1000000
def FQ(qb:Nat)(lv:Value)(mo:Option Nat):Nat->Prop:=fun i=>i=qb∨lv.ownBlock=some i∨mo=some i
def HRq(qb:Nat):World->(Nat->Th)->Nat->(Nat->Prop)->Prop:=fun w a n F=>∃lv mo g,QC w qb a n lv mo g∧∀i,F i↔FQ qb lv mo i
section
variable{w w':World}{qb n:Nat}{a:Nat->Th}{lv:Value}{mo:Option Nat}{g:Int->Option Int}{F:Nat->Prop}
theorem MQ.fr(h:MQ w mo n g){G:Nat->Prop}(f:Fr G w w')(hG:∀b,mo=some b->¬G b):MQ w' mo n g:=by
 cases mo with
 |none=>exact h
 |some mb=>exact MpN.fr h f (hG mb rfl)
theorem MQ.lt(h:MQ w mo n g):∀b,mo=some b->b<w.heap.size:=by
 rintro b rfl;exact MpN.lt h
theorem QC.fr(h:QC w qb a n lv mo g){G:Nat->Prop}(f:Fr G w w')(hG:∀i,FQ qb lv mo i->¬G i):QC w' qb a n lv mo g:=
 ⟨h.hd.fr f (hG _ (.inl rfl)),h.li.fr f (fun b q=>hG b (.inr (.inl q))),h.mp.fr f (fun b q=>hG b (.inr (.inr q))),h.pl,h.ok,h.n1,h.n2,h.sm⟩
theorem QC.fr0(h:QC w qb a n lv mo g)(f:Fr NoF w w'):QC w' qb a n lv mo g:=h.fr f (fun _ _ q=>q)
theorem QC.lt(h:QC w qb a n lv mo g):∀i,FQ qb lv mo i->i<w.heap.size:=by
 rintro i(rfl|q|q)
 .exact h.hd.lt
 .exact h.li.lt i q
 .exact h.mp.lt i q
theorem QC.inj(h:QC w qb a n lv mo g):InjF (fun t:Th=>t.x) a n:=by
 intro k m hk hm e;have h1:=(h.pl (a k).x (k:Int)).2 ⟨k,rfl,hk,rfl⟩;have h2:=(h.pl (a k).x (m:Int)).2 ⟨m,rfl,hm,e.symm⟩;rw[h1]at h2;simp at h2;omega
theorem QC.c0(h:QC w qb a n lv mo g):w.cell? ⟨qb,0,none⟩=some lv:=h.hd.cell (i:=0) (by omega)
theorem QC.c1(h:QC w qb a n lv mo g):w.cell? ⟨qb,1,none⟩=some (.map mo):=h.hd.cell (i:=1) (by omega)
theorem QC.el(h:QC w qb a n lv mo g){i:Nat}(hi:i<n):∃gb cap,lv=.slice (some ⟨gb,0,none⟩) n cap∧n<=cap∧cap<=9223372036854775807∧gb<w.heap.size∧(∀j,w.frozen? ⟨gb,j,none⟩=false)∧w.cell? ⟨gb,i*3,none⟩=some (.int .i64 (a i).x)∧w.cell? ⟨gb,i*3+1,none⟩=some (.int .i64 (a i).a)∧w.cell? ⟨gb,i*3+2,none⟩=some (.int .i64 (a i).b):=by
 obtain⟨gb,cap,e,h1,h2,h3,h4,h5⟩:=h.li.at (by omega);exact⟨gb,cap,e,h1,by unfold maxLen at h2;omega,h3,h4,by rw[h5 _ (by omega),thF_0],by rw[h5 _ (by omega),thF_1],by rw[h5 _ (by omega),thF_2]⟩
theorem q_len(h:QC w qb a n lv mo g):Calls prog 203 #[.pointer (some ⟨qb,0,none⟩)] w fun e w'=>e=.returned (.int .i64 (n:Nat))∧w=w':=by
 have c0:=h.c0;have lb:=h.hd.lt;obtain⟨va,vc,rfl,_,_⟩:=h.li.shape;clear h;go_enter func203,ntmps203;go_wp2;go_returns;exact⟨rfl,rfl⟩
theorem q_less(h:QC w qb a n lv mo g){i j:Nat}(hi:i<n)(hj:j<n):Calls prog 268 #[.pointer (some ⟨qb,0,none⟩),.int .i64 i,.int .i64 j] w fun e w'=>e=.returned (.bool (ltT (a i) (a j)))∧Fr NoF w w':=by
 have hn:=h.sm;have HC:Hid (∀W,Fr NoF w W->W.cell? ⟨qb,0,none⟩=some lv):=fun W f=>(h.fr0 f).c0
 obtain⟨gb,cap,rfl,h1,h2,h3,h4,i0,i1,i2⟩:=h.el hi;obtain⟨gb',cap',e,_,_,_,_,j0,j1,j2⟩:=h.el hj;simp only[Value.slice.injEq,Option.some.injEq,Addr.mk.injEq]at e;obtain⟨⟨rfl,_⟩,_,rfl⟩:=e
 have HCL:Hid (∀W,Fr NoF w W->W.cell? ⟨gb,i*3,none⟩=some (.int .i64 (a i).x)∧W.cell? ⟨gb,i*3+1,none⟩=some (.int .i64 (a i).a)∧W.cell? ⟨gb,i*3+2,none⟩=some (.int .i64 (a i).b)∧W.cell? ⟨gb,j*3,none⟩=some (.int .i64 (a j).x)∧W.cell? ⟨gb,j*3+1,none⟩=some (.int .i64 (a j).a)∧W.cell? ⟨gb,j*3+2,none⟩=some (.int .i64 (a j).b)∧W.cell? ⟨qb,0,none⟩=some (.slice (some ⟨gb,0,none⟩) n cap)):=by
  intro W f;refine⟨?_,?_,?_,?_,?_,?_,HC.out W f⟩
  .rw[f.cell (p:=⟨gb,_,none⟩) h3 id];exact i0
  .rw[f.cell (p:=⟨gb,_,none⟩) h3 id];exact i1
  .rw[f.cell (p:=⟨gb,_,none⟩) h3 id];exact i2
  .rw[f.cell (p:=⟨gb,_,none⟩) h3 id];exact j0
  .rw[f.cell (p:=⟨gb,_,none⟩) h3 id];exact j1
  .rw[f.cell (p:=⟨gb,_,none⟩) h3 id];exact j2
 have HCM:=Hd (fun W=>compare_calls (a i) (a j) W);unfold thV at HCM;have HL:Hid (ltT (a i) (a j)=decide (cmpT (a i) (a j)<0)):=rfl;rw[HL.out];generalize cmpT (a i) (a j)=cv at*;generalize(a i).x=ix at*;generalize(a i).a=ia at*;generalize(a i).b=ib at*;generalize(a j).x=jx at*;generalize(a j).a=ja at*;generalize(a j).b=jb at*;have lb:=h.hd.lt;clear h h4 i0 i1 i2 j0 j1 j2 HL;go_enter func268,ntmps268
 go_wp2_with fail
 go_region_held3(fun w'=>w'.cell? ⟨gb,i*3,none⟩=some (.int .i64 ix)∧w'.cell? ⟨gb,i*3+1,none⟩=some (.int .i64 ia)∧w'.cell? ⟨gb,i*3+2,none⟩=some (.int .i64 ib)∧w'.cell? ⟨gb,j*3,none⟩=some (.int .i64 jx)∧w'.cell? ⟨gb,j*3+1,none⟩=some (.int .i64 ja)∧w'.cell? ⟨gb,j*3+2,none⟩=some (.int .i64 jb)∧w'.cell? ⟨qb,0,none⟩=some (.slice (some ⟨gb,0,none⟩) n cap))
  (exact HCL.out _ (by repeat(first|exact FH.out|exact Fr.refl NoF _|apply Fr.drew|apply Fr.drewN)))
  (first
   |(go_at_call 272;(with_reducible refine(HCM.out _).mono ?_);rintro e wh⟨rfl,fh⟩;have FH:=Hd (((Fr.refl NoF w).drew).trans fh (fun _ q=>q.elim));clear fh))
 all_goals
  go_wp2;go_returns;exact⟨rfl,by repeat(first|exact FH.out|apply Fr.drew|apply Fr.drewN)⟩
theorem QC.swap{gb cap:Nat}(h:QC w qb a n (.slice (some ⟨gb,0,none⟩) n cap) mo g){i j:Nat}(hi:i<n)(hj:j<n){w1:World}
  (hw:w1=(((((w.setCell ⟨gb,i*3,none⟩ (.int .i64 (a j).x)).setCell ⟨gb,i*3+1,none⟩ (.int .i64 (a j).a)).setCell ⟨gb,i*3+2,none⟩ (.int .i64 (a j).b)).setCell ⟨gb,j*3,none⟩ (.int .i64 (a i).x)).setCell ⟨gb,j*3+1,none⟩ (.int .i64 (a i).a)).setCell ⟨gb,j*3+2,none⟩ (.int .i64 (a i).b)):
  SlF w1 277 3 (.slice (some ⟨gb,0,none⟩) n cap) n (thF (swp a i j))∧Fr (fun k=>k=gb) w w1∧∃mb,mo=some mb∧MpN prog 3 3 .i64 .i64 w1 mb n g∧w1.cell? ⟨qb,0,none⟩=some (.slice (some ⟨gb,0,none⟩) n cap)∧w1.cell? ⟨qb,1,none⟩=some (.map (some mb))∧i64 (a i).x∧i64 (a j).x∧
   Hid (∀w2,MpN prog 3 3 .i64 .i64 w2 mb n (updI (updI g (a j).x (some (i:Int))) (a i).x (some (j:Int)))->Fr (fun k=>k=mb) w1 w2->HRq qb w2 (swp a i j) n (FQ qb (.slice (some ⟨gb,0,none⟩) n cap) mo)∧Fr (FQ qb (.slice (some ⟨gb,0,none⟩) n cap) mo) w w2):=by
 have fr:Fr (fun k=>k=gb) w w1:=by
  rw[hw];exact((((((Fr.refl (fun k=>k=gb) w).setCell (p:=⟨gb,i*3,none⟩) (.inl rfl) _).setCell (p:=⟨gb,i*3+1,none⟩) (.inl rfl) _).setCell (p:=⟨gb,i*3+2,none⟩) (.inl rfl) _).setCell (p:=⟨gb,j*3,none⟩) (.inl rfl) _).setCell (p:=⟨gb,j*3+1,none⟩) (.inl rfl) _).setCell (p:=⟨gb,j*3+2,none⟩) (.inl rfl) _
 have s1:=((((((h.li.set (i:=i*3) (by omega) (.int .i64 (a j).x)).set (i:=i*3+1) (by omega) (.int .i64 (a j).a)).set (i:=i*3+2) (by omega) (.int .i64 (a j).b)).set (i:=j*3) (by omega) (.int .i64 (a i).x)).set (i:=j*3+1) (by omega) (.int .i64 (a i).a)).set (i:=j*3+2) (by omega) (.int .i64 (a i).b));rw[thF_set a i (a j),thF_set (upd a i (a j)) j (a i),swp_upd,<-hw]at s1;clear hw;obtain⟨k1,k2⟩:=h.n1 gb rfl
 cases mo with
 |none=>have:=h.mp.1;omega
 |some mb=>
  have k3:=h.n2 mb rfl;have hne:¬mb=gb:=fun q=>k2 (by rw[q])
  refine⟨s1,fr,mb,rfl,MpN.fr h.mp fr hne,?_,?_,(h.ok i hi).1,(h.ok j hj).1,?_⟩
  .rw[fr.cell (p:=⟨qb,0,none⟩) h.hd.lt (fun q=>k1 q.symm)];exact h.c0
  .rw[fr.cell (p:=⟨qb,1,none⟩) h.hd.lt (fun q=>k1 q.symm)];exact h.c1
  .intro w2 hm f2
   refine⟨⟨_,some mb,_,⟨(h.hd.fr fr (fun q=>k1 q.symm)).fr f2 (fun q=>k3 q.symm),s1.fr f2 (fun b q e=>by rw[e]at q;exact(h.n1 mb q).2 rfl),hm,fun x k=>?_,fun k hk=>?_,h.n1,h.n2,h.sm⟩,fun i=>Iff.rfl⟩,(fr.mono (fun i q=>.inr (.inl (by rw[q];rfl)))).trans f2 (fun i q=>.inl (.inr (.inr (by rw[q]))))⟩
   .have hij:=h.inj
    by_cases e1:x=(a i).x
    .subst e1
     rw[updI_same];constructor
     .rintro⟨rfl⟩
      refine⟨j,rfl,hj,?_⟩;unfold swp;split
      .rename_i q;rw[q]
      .rw[if_pos rfl]
     .rintro⟨j',rfl,hj',q⟩
      have:j'=j:=by
       have hs:=swp_inj hi hj hij;refine hs j' j hj' hj ?_
       show(swp a i j j').x=(swp a i j j).x
       rw[q];unfold swp;split
       .rename_i q;rw[q]
       .rw[if_pos rfl]
      rw[this]
    .rw[updI_other _ _ e1]
     by_cases e2:x=(a j).x
     .subst e2
      rw[updI_same];constructor
      .rintro⟨rfl⟩
       exact⟨i,rfl,hi,by unfold swp;rw[if_pos rfl]⟩
      .rintro⟨j',rfl,hj',q⟩
       have:j'=i:=by
        have hs:=swp_inj hi hj hij;refine hs j' i hj' hi ?_
        show(swp a i j j').x=(swp a i j i).x
        rw[q];unfold swp;rw[if_pos rfl]
       rw[this]
     .rw[updI_other _ _ e2,h.pl x k]
      constructor
      .rintro⟨j',rfl,hj',q⟩
       refine⟨j',rfl,hj',?_⟩;unfold swp;rw[if_neg (fun e=>e1 (by rw[<-q,e])),if_neg (fun e=>e2 (by rw[<-q,e]))];exact q
      .rintro⟨j',rfl,hj',q⟩
       refine⟨j',rfl,hj',?_⟩;unfold swp at q
       split at q
       .exact(e2 q.symm).elim
       .split at q
        .exact(e1 q.symm).elim
        .exact q
   .unfold swp
    split
    .exact h.ok j hj
    .split
     .exact h.ok i hi
     .exact h.ok k hk
end
end
end Go.Proofs.YtoenclhimbpfeaaGreatDoor
