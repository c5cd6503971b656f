/- Part 45. -/
import Derived.Test.YtkjhnllcphidpaaGreatDoorM44
namespace Go.Proofs.YtkjhnllcphidpaaGreatDoor
set_option linter.all false
set_option maxHeartbeats 16000000
set_option maxRecDepth 100000
section
open Go.Maps Go.RowKit
structure AML(M:AM)(room:Nat)(l:List Pg):Prop where
 ids:M.ids=l.map (·.id)
 val:∀p∈l,M.val p.id=p.v
 pin:∀p∈l,M.pin p.id=p.pins
 room:M.room=room
section
variable{M:AM}{n room c:Nat}{l:List Pg}
theorem AML.mem(h:AML M room l){id j:Nat}(hj:j<l.length)(e:l[j].id=id):id∈M.ids:=by
 rw[h.ids,<-e];exact List.mem_map.2 ⟨_,List.getElem_mem hj,rfl⟩
theorem AML.out(h:AML M room l){id:Nat}(e:atG l id=none):¬id∈M.ids:=by
 rw[h.ids];intro q;obtain⟨p,hp,hi⟩:=List.mem_map.1 q;unfold atG at e;rw[List.findIdx?_eq_none_iff]at e;have:=e p hp;simp[hi]at this
theorem AML.full(h:AML M room l):M.full n=decide (n<=pinL l):=by
 have:M.pinned.length=pinL l:=by
  unfold AM.pinned pinL;rw[h.ids,List.filter_map,List.length_map,List.countP_eq_length_filter]
  congr 1
  refine List.filter_congr λp hp=>?_
  show decide (¬M.pin p.id=0)=_
  rw[h.pin p hp];exact decide_eq_decide.2 (by omega)
 unfold AM.full;rw[this]
theorem AML.len(h:AML M room l):M.ids.length=l.length:=by rw[h.ids,List.length_map]
theorem AML.gap(h:AML M room l):gZ l M.gap:=by
 have g:=cF (M.ids.map (λx=>(x,0)));have e:(M.ids.map (λx=>(x,0))).length=l.length:=by rw[List.length_map,h.len]
 have e2:∀j (hj:j<l.length),((M.ids.map (λx=>(x,0)))[j]'(by rw[e];exact hj)).1=l[j].id:=λj hj=>by simp[h.ids]
 refine⟨by rw[<-e];exact g.le,λj hj q=>?_,λhk=>?_⟩
 .rw[<-e2 j hj];exact g.all j (by rw[e];exact hj) q
 .rw[<-e2 _ hk];exact g.not (by rw[e];exact hk)
theorem AML.set(h:AML M room l)(hr:cH l){j:Nat}(hj:j<l.length)(p:Pg)(hp:p.id=l[j].id):AML {M with val:=upd M.val p.id p.v,pin:=upd M.pin p.id p.pins} room (l.set j p):=by
 have key:∀q∈l.set j p,q=p\/(q∈l/\¬q.id=p.id):=λq hq=>by rw[hp];exact rG hr hj hq
 refine⟨?_,λq hq=>?_,λq hq=>?_,h.room⟩
 .show M.ids=_
  rw[h.ids,List.map_set,hp]
  exact(List.ext_getElem (by simp) λi h1 h2=>by
   rw[List.getElem_set]
   split
   .rename_i e;subst e;simp
   .rfl)
 .rcases key q hq with rfl|⟨k1,k2⟩
  .exact upd_same _ _ _
  .exact(ab _ _ k2).trans (h.val q k1)
 .rcases key q hq with rfl|⟨k1,k2⟩
  .exact upd_same _ _ _
  .exact(ab _ _ k2).trans (h.pin q k1)
theorem AN{α:Type}(f:Nat->α)(x:Nat){v:α}(h:f x=v):upd f x v=f:=by
 funext i
 by_cases e:i=x
 .rw[e,upd_same,h]
 .rw[ab _ _ e]
theorem AML.setP(h:AML M room l)(hr:cH l){j z:Nat}(hj:j<l.length):AML {M with pin:=upd M.pin l[j].id z} room (l.set j {l[j]with pins:=z}):=by
 have:=h.set hr hj {l[j]with pins:=z} rfl
 rwa [show upd M.val l[j].id l[j].v=M.val from AN _ _ (h.val _ (List.getElem_mem hj))]at this
theorem AML.setV(h:AML M room l)(hr:cH l){j z:Nat}(hj:j<l.length):AML {M with val:=upd M.val l[j].id z} room (l.set j {l[j]with v:=z}):=by
 have:=h.set hr hj {l[j]with v:=z} rfl
 rwa [show upd M.pin l[j].id l[j].pins=M.pin from AN _ _ (h.pin _ (List.getElem_mem hj))]at this
theorem AML.cut(h:AML M room l)(hr:cH l){j:Nat}(hj:j<l.length):AML {M with ids:=outI M.ids l[j].id} room (l.take j++l.drop (j+1)):=by
 have hm:∀q∈l.take j++l.drop (j+1),q∈l:=λq hq=>((pj hr hj).1 hq).1
 refine⟨?_,λq hq=>h.val q (hm q hq),λq hq=>h.pin q (hm q hq),h.room⟩
 show outI M.ids l[j].id=_
 have e:(M.ids.findIdx? λy=>y==l[j].id)=some j:=by
  rw[List.findIdx?_eq_some_iff_getElem];refine⟨by rw[h.len];exact hj,by simp[h.ids],λi hi=>?_⟩;simp only[h.ids,List.getElem_map,beq_iff_eq];exact λq=>by have:=hr.inj (by omega) hj q;omega
 unfold outI;rw[e];simp only[h.ids,List.map_append,List.map_take,List.map_drop]
theorem AML.ins(h:AML M room l){k:Nat}(hk:∀p∈l,¬p.id=k+1):AML {M with ids:=M.ids.take k++[k+1]++M.ids.drop k,val:=upd M.val (k+1) 0,pin:=upd M.pin (k+1) 1} room (insG l k):=by
 refine⟨?_,λq hq=>?_,λq hq=>?_,h.room⟩
 .show M.ids.take k++[k+1]++M.ids.drop k=_
  unfold insG;simp only[h.ids,List.map_append,List.map_take,List.map_drop,List.map_cons,List.map_nil]
 .rcases jV.1 hq with rfl|hm
  .exact upd_same _ _ _
  .exact(ab _ _ (hk q hm)).trans (h.val q hm)
 .rcases jV.1 hq with rfl|hm
  .exact upd_same _ _ _
  .exact(ab _ _ (hk q hm)).trans (h.pin q hm)
theorem Ca(P:PSm n room c l)(A:AML M room l)(hn:n<=65535)(hc:c<1000)(o:OpF)(ho:o.ok):
  ∃l',PSm n room (c+1) l'/\AML (M.call n o).2 room l'/\nS n room l o.k o.id o.v (M.call n o).1.e (M.call n o).1.id (M.call n o).1.v l':=by
 obtain⟨k,id,x⟩:=o;have hx:okV x:=ho.2.1;have hF:=A.full (n:=n);have P1:=P.mono (Nat.le_succ c);unfold AM.call;by_cases h0:k=0
 .subst h0
  rw[if_pos rfl];unfold AM.newPage;rw[hF,A.len];have hr:=A.room;by_cases h1:n<=pinL l
  .rw[if_pos (by simpa using h1)]
   exact⟨l,P1,A,aV λW r lv H=>lR (λW r lv H=>mw H h1) H⟩
  rw[if_neg (by simpa using h1)];by_cases h2:room<=l.length
  .rw[if_pos (by omega)]
   exact⟨l,P1,A,aV λW r lv H=>lR (λW r lv H=>rW H h1 h2) H⟩
  rw[if_neg (by omega)];have g:=A.gap;exact⟨_,P.ins g (by omega) (by omega),A.ins (BL P.rise (λp hp=>(P.dom p hp).1) g),nC λW r lv H=>vK H h1 (by omega) g⟩
 rw[if_neg h0];by_cases h6:k=6
 .subst h6
  exact⟨l,P1,A,aV λW r lv H=>ET H⟩
 by_cases hk:k<0\/7<k
 .rw[if_neg (by show¬k=1;omega),if_neg (by show¬k=2;omega),if_neg (by show¬k=3;omega),if_neg (by show¬k=4;omega),if_neg (by show¬k=5;omega),if_neg h6,if_neg (by show¬k=7;omega)]
  exact⟨l,P1,A,aV λW r lv H=>wt H hk⟩
 have hk:k=1\/k=2\/k=3\/k=4\/k=5\/k=7:=by omega
 clear h0 h6;unfold AM.fetch AM.unpin AM.read AM.write AM.flush AM.delete AM.held
 cases hat:atG l id with
 |none=>
  have hm:=A.out hat;refine⟨l,P1,?_⟩;rcases hk with rfl|rfl|rfl|rfl|rfl|rfl<;>simp[hm]<;>refine⟨A,aV λW r lv H=>?_⟩
  .exact mB H hat
  .exact mx H hat
  .exact mu H hat
  .exact l9 H hat
  .exact mh H hat
  .exact md H hat
 |some j=>
  obtain⟨hj,rfl⟩:=Ee hat;have hm:=A.mem hj rfl;have hp:=A.pin _ (List.getElem_mem hj);have hv:=A.val _ (List.getElem_mem hj)
  cases e0:l[j].pins with
  |zero=>
   rw[e0]at hp;rcases hk with rfl|rfl|rfl|rfl|rfl|rfl<;>simp only[hm,hp,hF]
   .by_cases hf:n<=pinL l
    .simp[hf]
     exact⟨l,P1,A,aV λW r lv H=>sR H hat hj e0 hf⟩
    .simp[hf]
     have hlt:=BX hj e0;have hps':pinL (l.set j {l[j]with pins:=1})=pinL l+1:=by have hps:=il hj {l[j]with pins:=1};simp only[e0]at hps;simpa using hps
     exact⟨_,P.set hj {l[j]with pins:=1} rfl (by show 1<=c+1;omega) (by omega),A.setP P.rise hj,gK λW r lv H=>qi H hat hj e0 hf⟩
   .simp
    exact⟨l,P1,A,aV λW r lv H=>xz H hat hj e0⟩
   .simp
    exact⟨l,P1,A,aV λW r lv H=>wm H hat hj e0⟩
   .simp
    exact⟨l,P1,A,aV λW r lv H=>wc H hat hj e0⟩
   .simp
    exact⟨l,P1,A,aV λW r lv H=>C1 H hat hj⟩
   .simp
    exact⟨_,P.cut hj,A.cut P.rise hj,nC λW r lv H=>vT H hat hj e0⟩
  |succ q=>
   rw[e0]at hp;have hpos:=xE hj e0;have hq:q+1<=c:=by have:=P.pb _ (List.getElem_mem hj);omega
   rcases hk with rfl|rfl|rfl|rfl|rfl|rfl<;>simp only[hm,hp,hF,hv]
   .simp
    have hps':pinL (l.set j {l[j]with pins:=q+2})=pinL l:=by have hps:=il hj {l[j]with pins:=q+2};simp only[e0]at hps;simpa using hps
    exact⟨_,P.set hj {l[j]with pins:=q+2} rfl (by show q+2<=c+1;omega) (by have:=P.hp;omega),A.setP P.rise hj,gK λW r lv H=>tE H hat hj e0 (by omega)⟩
   .simp
    have hps:pinL (l.set j {l[j]with pins:=q})<=pinL l:=Nat.le_of_add_le_add_right (b:=if 0<l[j].pins then 1 else 0) (Nat.le_trans (Nat.le_of_eq (il hj {l[j]with pins:=q})) (Nat.add_le_add_left (by show(if 0<q then 1 else 0)<=(if 0<l[j].pins then 1 else 0);rw[if_pos (show 0<l[j].pins by omega)];split<;>omega) _));exact⟨_,P.set hj {l[j]with pins:=q} rfl (by show q<=c+1;omega) (by have:=P.hp;omega),A.setP P.rise hj,gK λW r lv H=>Ev H hat hj e0⟩
   .simp
    exact⟨l,P1,A,aV λW r lv H=>EL H hat hj e0⟩
   .simp
    have hps':pinL (l.set j {l[j]with v:=x})=pinL l:=Nat.add_right_cancel (m:=if 0<l[j].pins then 1 else 0) (il hj {l[j]with v:=x});exact⟨_,P.set hj {l[j]with v:=x} rfl (by show l[j].pins<=c+1;omega) (by have:=P.hp;omega),A.setV P.rise hj,gK λW r lv H=>Fk H hat hj e0 hx⟩
   .simp
    exact⟨l,P1,A,aV λW r lv H=>C1 H hat hj⟩
   .simp
    exact⟨l,P1,A,aV λW r lv H=>oX H hat hj e0⟩
end
end
end Go.Proofs.YtkjhnllcphidpaaGreatDoor
