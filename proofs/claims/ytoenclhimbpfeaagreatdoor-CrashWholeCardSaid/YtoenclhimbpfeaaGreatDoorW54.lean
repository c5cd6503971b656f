/- Part 54. -/
import Derived.Test.YtoenclhimbpfeaaGreatDoorW52
import Derived.Test.YtoenclhimbpfeaaGreatDoorW39
namespace Go.Proofs.YtoenclhimbpfeaaGreatDoor
set_option linter.all false
set_option maxHeartbeats 16000000
set_option maxRecDepth 100000
section
open Go.Proofs.Tryz Go.RowKit
structure PSm(n room c:Nat)(l:List Pg):Prop where
 rise:cw l
 dom:∀p∈l,1<=p.id/\p.id<=room
 le:l.length<=room
 hp:pinL l<=n
 pb:∀p∈l,p.pins<=c
theorem PSm.mono{n room c d:Nat}{l:List Pg}(h:PSm n room c l)(hd:c<=d):PSm n room d l:=⟨h.rise,h.dom,h.le,h.hp,λp hp=>Nat.le_trans (h.pb p hp) hd⟩
theorem BP{l:List Pg}{j:Nat}(hj:j<l.length)(hp:l[j].pins=0):pinL l+1<=l.length:=by
 have h1:=dj hj;have h2:=j4 (l.take j);have h3:=j4 (l.drop (j+1));rw[List.length_take]at h2;rw[List.length_drop]at h3;rw[hp]at h1;simp at h1;omega
theorem zr{l:List Pg}{j:Nat}(hj:j<l.length){q:Nat}(hp:l[j].pins=q+1):1<=pinL l:=by
 have h1:=dj hj;rw[hp]at h1;simp at h1;omega
theorem PSm.set{n room c:Nat}{l:List Pg}(h:PSm n room c l){j:Nat}(hj:j<l.length)(p:Pg)(hid:p.id=l[j].id)(hpb:p.pins<=c+1)(hn:pinL (l.set j p)<=n):PSm n room (c+1) (l.set j p):=by
 refine⟨h.rise.set hj p hid,λq hq=>?_,by rw[List.length_set];exact h.le,hn,λq hq=>?_⟩
 .rcases List.mem_or_eq_of_mem_set hq with q'|rfl
  .exact h.dom q q'
  .rw[hid];exact h.dom _ (List.getElem_mem hj)
 .rcases List.mem_or_eq_of_mem_set hq with q'|rfl
  .exact Nat.le_succ_of_le (h.pb q q')
  .exact hpb
theorem PSm.cut{n room c:Nat}{l:List Pg}(h:PSm n room c l){j:Nat}(hj:j<l.length):PSm n room (c+1) (l.take j++l.drop (j+1)):=by
 have h1:=yG hj;have h2:=BY hj;have h3:=h.le;have h4:=h.hp;exact⟨h.rise.cut j,λq hq=>h.dom q ((ow h.rise hj).1 hq).1,by omega,by omega,λq hq=>Nat.le_succ_of_le (h.pb q ((ow h.rise hj).1 hq).1)⟩
theorem PSm.ins{n room c:Nat}{l:List Pg}(h:PSm n room c l){k:Nat}(hg:gU l k)(hk:l.length<room)(hn:pinL l<n):PSm n room (c+1) (insG l k):=by
 have hl:=hg.le;refine⟨h.rise.ins (λp hp=>(h.dom p hp).1) hg,λq hq=>?_,by rw[lA l hl];omega,by rw[Bx];omega,λq hq=>?_⟩
 .rcases j7.1 hq with rfl|hm
  .exact⟨by show 1<=k+1;omega,by show k+1<=room;omega⟩
  .exact h.dom q hm
 .rcases j7.1 hq with rfl|hm
  .show 1<=c+1;omega
  .exact Nat.le_succ_of_le (h.pb q hm)
def uU(n room:Nat)(l:List Pg)(k:Int)(id x:Nat)(E I V:Int)(l':List Pg):Prop:=
 ∀W r lv,RG W r n room l lv->Calls prog 11 #[.pointer (some ⟨r,0,none⟩),.agg #[.int .i64 k,.int .u32 id,.int .u64 x]] W λe W'=>e=.returned (.agg #[.int .i64 E,.int .u32 I,.int .u64 V])/\(∃lv',RG W' r n room l' lv'/\∀i,GFr r lv' i->GFr r lv i\/W.heap.size<=i)/\Fr (GFr r lv) W W'
section
variable{n room c:Nat}{l:List Pg}
theorem aZ{k:Int}{id x:Nat}{E I V:Int}(h:∀W r lv,RG W r n room l lv->Calls prog 11 #[.pointer (some ⟨r,0,none⟩),.agg #[.int .i64 k,.int .u32 id,.int .u64 x]] W λe W'=>e=.returned (.agg #[.int .i64 E,.int .u32 I,.int .u64 V])/\Fr NoF W W'):uU n room l k id x E I V l:=
 λW r lv H=>(h W r lv H).mono λe W' q=>⟨q.1,⟨lv,H.fr0 q.2,λi q=>.inl q⟩,q.2.mono (λ_ q=>q.elim)⟩
theorem gv{k:Int}{id x:Nat}{E I V:Int}{l':List Pg}(h:∀W r lv,RG W r n room l lv->Calls prog 11 #[.pointer (some ⟨r,0,none⟩),.agg #[.int .i64 k,.int .u32 id,.int .u64 x]] W λe W'=>e=.returned (.agg #[.int .i64 E,.int .u32 I,.int .u64 V])/\RG W' r n room l' lv/\Fr (GFr r lv) W W'):uU n room l k id x E I V l':=
 λW r lv H=>(h W r lv H).mono λe W' q=>⟨q.1,⟨lv,q.2.1,λi q=>.inl q⟩,q.2.2⟩
theorem nB{k:Int}{id x:Nat}{E I V:Int}{l':List Pg}(h:∀W r lv,RG W r n room l lv->Calls prog 11 #[.pointer (some ⟨r,0,none⟩),.agg #[.int .i64 k,.int .u32 id,.int .u64 x]] W λe W'=>e=.returned (.agg #[.int .i64 E,.int .u32 I,.int .u64 V])/\(∃lv',RG W' r n room l' lv'/\∀i,GFr r lv' i->GFr r lv i\/W.heap.size<=i)/\Fr (λi=>i=r) W W'):uU n room l k id x E I V l':=
 λW r lv H=>(h W r lv H).mono λe W' q=>⟨q.1,q.2.1,q.2.2.mono (λi q=>.inl q)⟩
theorem lF{E:Int}{id x:Int}(h:∀W r lv,RG W r n room l lv->Calls prog 22 #[.pointer (some ⟨r,0,none⟩)] W λe W'=>e=.returned (.agg #[.int .i64 E,.int .u32 0,.int .u64 0])/\Fr NoF W W'){w:World}{r:Nat}{lv:Value}(H:RG w r n room l lv):
  Calls prog 11 #[.pointer (some ⟨r,0,none⟩),.agg #[.int .i64 0,.int .u32 id,.int .u64 x]] w λe w'=>e=.returned (.agg #[.int .i64 E,.int .u32 0,.int .u64 0])/\Fr NoF w w':=by
 have fA:Fr NoF w ((w.alloc (.cells #[.int .i64 0,.int .u32 id,.int .u64 x] 50)).alloc (.cells #[.int .i64 0,.int .u32 0,.int .u64 0] 45)):=((Fr.refl NoF w).alloc _).alloc _;have HIN:=Hd (h _ r lv (H.fr0 fA));have HFA:=Hd fA;clear h H fA;go_enter func11,ntmps11
 go_wp2_with fail
 refine HIN.out.mono ?_;rintro e w1⟨rfl,q2⟩;have RB:=(dZ w (.int .i64 0) (.int .u32 id) (.int .u64 x) (.int .i64 0) (.int .u32 0) (.int .u64 0) (t:=45) (t':=50)).fr q2 (λq=>q);have HRB:=Hd RB;have HF:Hid (Fr NoF w w1):=HFA.out.trans q2 (λi q=>.inl q);have t0:w1.cell? ⟨w.heap.size+1,0,none⟩=some (.int .i64 0):=RB.cell (i:=0) (by omega);have t1:w1.cell? ⟨w.heap.size+1,1,none⟩=some (.int .u32 0):=RB.cell (i:=1) (by omega);have t2:w1.cell? ⟨w.heap.size+1,2,none⟩=some (.int .u64 0):=RB.cell (i:=2) (by omega);have g0:=RB.frozen 0;have g1:=RB.frozen 1;have g2:=RB.frozen 2;have lr:=RB.lt;clear RB q2 HIN;go_wp2;have RS:=((HRB.out.set 0 (.int .i64 E)).set 1 (.int .u32 0)).set 2 (.int .u64 0);have FS:=(((Fr.refl (λi=>i=w.heap.size+1) w1).setCell (p:=⟨w.heap.size+1,0,none⟩) (.inl rfl) (.int .i64 E)).setCell (p:=⟨w.heap.size+1,1,none⟩) (.inl rfl) (.int .u32 0)).setCell (p:=⟨w.heap.size+1,2,none⟩) (.inl rfl) (.int .u64 0)
 (try simp only[Exit.inBlock,Exit.then])
 refine bodyPost_ret (af Tryz.results11 _ _ RS rfl underlying45 rfl (by kernel_rfl)) rfl ?_;exact⟨rfl,HF.out.trans FS (λi q=>.inr (by omega))⟩
theorem wg{id x:Int}{w:World}{r:Nat}{lv:Value}(H:RG w r n room l lv)(hf:¬n<=pinL l)(hr:l.length<room){k:Nat}(hg:gU l k):
  Calls prog 11 #[.pointer (some ⟨r,0,none⟩),.agg #[.int .i64 0,.int .u32 id,.int .u64 x]] w λe w'=>e=.returned (.agg #[.int .i64 0,.int .u32 (k+1:Nat),.int .u64 0])/\(∃lv',RG w' r n room (insG l k) lv'/\∀i,GFr r lv' i->GFr r lv i\/w.heap.size<=i)/\Fr (λi=>i=r) w w':=by
 have fA:Fr NoF w ((w.alloc (.cells #[.int .i64 0,.int .u32 id,.int .u64 x] 50)).alloc (.cells #[.int .i64 0,.int .u32 0,.int .u64 0] 45)):=((Fr.refl NoF w).alloc _).alloc _;have HIN:=Hd (xf (H.fr0 fA) hf hr);have HFA:=Hd fA;have HLT:=Hd H.lt;have HG:=Hd hg;have lbr:=H.hd.lt;clear H fA hf hr hg;go_enter func11,ntmps11
 go_wp2_with fail
 refine HIN.out.mono ?_;rintro e w1⟨k',hg',rfl,⟨lv',q1,q3⟩,q2⟩;obtain rfl:=hg'.unique HG.out;have RB:=(dZ w (.int .i64 0) (.int .u32 id) (.int .u64 x) (.int .i64 0) (.int .u32 0) (.int .u64 0) (t:=45) (t':=50)).fr q2 (λq=>by omega);have HRB:=Hd RB;have HQ1:=Hd q1;have HQ3:Hid (∀i,GFr r lv' i->GFr r lv i\/w.heap.size+2<=i):=λi q=>(q3 i q).imp _root_.id (λq=>by simpa using q)
 have HF:Hid (Fr (λi=>i=r) w w1):=(HFA.out.mono (λ_ q=>q.elim)).trans q2 (λi q=>.inl q);have t0:w1.cell? ⟨w.heap.size+1,0,none⟩=some (.int .i64 0):=RB.cell (i:=0) (by omega);have t1:w1.cell? ⟨w.heap.size+1,1,none⟩=some (.int .u32 0):=RB.cell (i:=1) (by omega);have t2:w1.cell? ⟨w.heap.size+1,2,none⟩=some (.int .u64 0):=RB.cell (i:=2) (by omega);have g0:=RB.frozen 0;have g1:=RB.frozen 1;have g2:=RB.frozen 2;have lr:=RB.lt;clear RB q2 HIN q1 q3 hg';go_wp2;have RS:=((HRB.out.set 0 (.int .i64 0)).set 1 (.int .u32 (k'+1:Nat))).set 2 (.int .u64 0);have FS:=(((Fr.refl (λi=>i=w.heap.size+1) w1).setCell (p:=⟨w.heap.size+1,0,none⟩) (.inl rfl) (.int .i64 0)).setCell (p:=⟨w.heap.size+1,1,none⟩) (.inl rfl) (.int .u32 (k'+1:Nat))).setCell (p:=⟨w.heap.size+1,2,none⟩) (.inl rfl) (.int .u64 0)
 (try simp only[Exit.inBlock,Exit.then])
 refine bodyPost_ret (af Tryz.results11 _ _ RS rfl underlying45 rfl (by kernel_rfl)) rfl ?_;refine⟨rfl,⟨lv',HQ1.out.fr FS (λi q e=>?_),λi q=>?_⟩,HF.out.trans FS (λi q=>.inr (by omega))⟩
 .rcases HQ3.out i q with q|q
  .have:=HLT.out i q;omega
  .omega
 .rcases HQ3.out i q with q|q
  .exact .inl q
  .right;omega
end
end
end Go.Proofs.YtoenclhimbpfeaaGreatDoor
namespace Go.Proofs.YtoenclhimbpfeaaGreatDoor
set_option linter.all false
set_option maxHeartbeats 16000000
set_option maxRecDepth 100000
section
open Go.Maps Go.RowKit
structure AML(M:AM)(room:Nat)(l:List Pg):Prop where
 ids:M.ids=l.map (·.id)
 val:∀p∈l,M.val p.id=p.v
 pin:∀p∈l,M.pin p.id=p.pins
 room:M.room=room
section
variable{M:AM}{n room c:Nat}{l:List Pg}
theorem AML.mem(h:AML M room l){id j:Nat}(hj:j<l.length)(e:l[j].id=id):id∈M.ids:=by
 rw[h.ids,<-e];exact List.mem_map.2 ⟨_,List.getElem_mem hj,rfl⟩
theorem AML.out(h:AML M room l){id:Nat}(e:atG l id=none):¬id∈M.ids:=by
 rw[h.ids];intro q;obtain⟨p,hp,hi⟩:=List.mem_map.1 q;unfold atG at e;rw[List.findIdx?_eq_none_iff]at e;have:=e p hp;simp[hi]at this
theorem AML.full(h:AML M room l):M.full n=decide (n<=pinL l):=by
 have:M.pinned.length=pinL l:=by
  unfold AM.pinned pinL;rw[h.ids,List.filter_map,List.length_map,List.countP_eq_length_filter]
  congr 1
  refine List.filter_congr λp hp=>?_
  show decide (¬M.pin p.id=0)=_
  rw[h.pin p hp];exact decide_eq_decide.2 (by omega)
 unfold AM.full;rw[this]
theorem AML.len(h:AML M room l):M.ids.length=l.length:=by rw[h.ids,List.length_map]
theorem AML.gap(h:AML M room l):gU l M.gap:=by
 have g:=cC (M.ids.map (λx=>(x,0)));have e:(M.ids.map (λx=>(x,0))).length=l.length:=by rw[List.length_map,h.len]
 have e2:∀j (hj:j<l.length),((M.ids.map (λx=>(x,0)))[j]'(by rw[e];exact hj)).1=l[j].id:=λj hj=>by simp[h.ids]
 refine⟨by rw[<-e];exact g.le,λj hj q=>?_,λhk=>?_⟩
 .rw[<-e2 j hj];exact g.all j (by rw[e];exact hj) q
 .rw[<-e2 _ hk];exact g.not (by rw[e];exact hk)
theorem AML.set(h:AML M room l)(hr:cw l){j:Nat}(hj:j<l.length)(p:Pg)(hp:p.id=l[j].id):AML {M with val:=upd M.val p.id p.v,pin:=upd M.pin p.id p.pins} room (l.set j p):=by
 have key:∀q∈l.set j p,q=p\/(q∈l/\¬q.id=p.id):=λq hq=>by rw[hp];exact sA hr hj hq
 refine⟨?_,λq hq=>?_,λq hq=>?_,h.room⟩
 .show M.ids=_
  rw[h.ids,List.map_set,hp]
  exact(List.ext_getElem (by simp) λi h1 h2=>by
   rw[List.getElem_set]
   split
   .rename_i e;subst e;simp
   .rfl)
 .rcases key q hq with rfl|⟨k1,k2⟩
  .exact upd_same _ _ _
  .exact(aa _ _ k2).trans (h.val q k1)
 .rcases key q hq with rfl|⟨k1,k2⟩
  .exact upd_same _ _ _
  .exact(aa _ _ k2).trans (h.pin q k1)
theorem yn{α:Type}(f:Nat->α)(x:Nat){v:α}(h:f x=v):upd f x v=f:=by
 funext i
 by_cases e:i=x
 .rw[e,upd_same,h]
 .rw[aa _ _ e]
theorem AML.setP(h:AML M room l)(hr:cw l){j z:Nat}(hj:j<l.length):AML {M with pin:=upd M.pin l[j].id z} room (l.set j {l[j]with pins:=z}):=by
 have:=h.set hr hj {l[j]with pins:=z} rfl
 rwa [show upd M.val l[j].id l[j].v=M.val from yn _ _ (h.val _ (List.getElem_mem hj))]at this
theorem AML.setV(h:AML M room l)(hr:cw l){j z:Nat}(hj:j<l.length):AML {M with val:=upd M.val l[j].id z} room (l.set j {l[j]with v:=z}):=by
 have:=h.set hr hj {l[j]with v:=z} rfl
 rwa [show upd M.pin l[j].id l[j].pins=M.pin from yn _ _ (h.pin _ (List.getElem_mem hj))]at this
theorem AML.cut(h:AML M room l)(hr:cw l){j:Nat}(hj:j<l.length):AML {M with ids:=outI M.ids l[j].id} room (l.take j++l.drop (j+1)):=by
 have hm:∀q∈l.take j++l.drop (j+1),q∈l:=λq hq=>((ow hr hj).1 hq).1
 refine⟨?_,λq hq=>h.val q (hm q hq),λq hq=>h.pin q (hm q hq),h.room⟩
 show outI M.ids l[j].id=_
 have e:(M.ids.findIdx? λy=>y==l[j].id)=some j:=by
  rw[List.findIdx?_eq_some_iff_getElem];refine⟨by rw[h.len];exact hj,by simp[h.ids],λi hi=>?_⟩;simp only[h.ids,List.getElem_map,beq_iff_eq];exact λq=>by have:=hr.inj (by omega) hj q;omega
 unfold outI;rw[e];simp only[h.ids,List.map_append,List.map_take,List.map_drop]
theorem AML.ins(h:AML M room l){k:Nat}(hk:∀p∈l,¬p.id=k+1):AML {M with ids:=M.ids.take k++[k+1]++M.ids.drop k,val:=upd M.val (k+1) 0,pin:=upd M.pin (k+1) 1} room (insG l k):=by
 refine⟨?_,λq hq=>?_,λq hq=>?_,h.room⟩
 .show M.ids.take k++[k+1]++M.ids.drop k=_
  unfold insG;simp only[h.ids,List.map_append,List.map_take,List.map_drop,List.map_cons,List.map_nil]
 .rcases j7.1 hq with rfl|hm
  .exact upd_same _ _ _
  .exact(aa _ _ (hk q hm)).trans (h.val q hm)
 .rcases j7.1 hq with rfl|hm
  .exact upd_same _ _ _
  .exact(aa _ _ (hk q hm)).trans (h.pin q hm)
theorem Ch(P:PSm n room c l)(A:AML M room l)(hn:n<=65535)(hc:c<1000)(o:OpF)(ho:o.ok):
  ∃l',PSm n room (c+1) l'/\AML (M.call n o).2 room l'/\uU n room l o.k o.id o.v (M.call n o).1.e (M.call n o).1.id (M.call n o).1.v l':=by
 obtain⟨k,id,x⟩:=o;have hx:okV x:=ho.2.1;have hF:=A.full (n:=n);have P1:=P.mono (Nat.le_succ c);unfold AM.call;by_cases h0:k=0
 .subst h0
  rw[if_pos rfl];unfold AM.newPage;rw[hF,A.len];have hr:=A.room;by_cases h1:n<=pinL l
  .rw[if_pos (by simpa using h1)]
   exact⟨l,P1,A,aZ λW r lv H=>lF (λW r lv H=>mB H h1) H⟩
  rw[if_neg (by simpa using h1)];by_cases h2:room<=l.length
  .rw[if_pos (by omega)]
   exact⟨l,P1,A,aZ λW r lv H=>lF (λW r lv H=>tq H h1 h2) H⟩
  rw[if_neg (by omega)];have g:=A.gap;exact⟨_,P.ins g (by omega) (by omega),A.ins (Dv P.rise (λp hp=>(P.dom p hp).1) g),nB λW r lv H=>wg H h1 (by omega) g⟩
 rw[if_neg h0];by_cases h6:k=6
 .subst h6
  exact⟨l,P1,A,aZ λW r lv H=>GL H⟩
 by_cases hk:k<0\/7<k
 .rw[if_neg (by show¬k=1;omega),if_neg (by show¬k=2;omega),if_neg (by show¬k=3;omega),if_neg (by show¬k=4;omega),if_neg (by show¬k=5;omega),if_neg h6,if_neg (by show¬k=7;omega)]
  exact⟨l,P1,A,aZ λW r lv H=>xJ H hk⟩
 have hk:k=1\/k=2\/k=3\/k=4\/k=5\/k=7:=by omega
 clear h0 h6;unfold AM.fetch AM.unpin AM.read AM.write AM.flush AM.delete AM.held
 cases hat:atG l id with
 |none=>
  have hm:=A.out hat;refine⟨l,P1,?_⟩;rcases hk with rfl|rfl|rfl|rfl|rfl|rfl<;>simp[hm]<;>refine⟨A,aZ λW r lv H=>?_⟩
  .exact mr H hat
  .exact ml H hat
  .exact mi H hat
  .exact lY H hat
  .exact mz H hat
  .exact mx H hat
 |some j=>
  obtain⟨hj,rfl⟩:=Es hat;have hm:=A.mem hj rfl;have hp:=A.pin _ (List.getElem_mem hj);have hv:=A.val _ (List.getElem_mem hj)
  cases e0:l[j].pins with
  |zero=>
   rw[e0]at hp;rcases hk with rfl|rfl|rfl|rfl|rfl|rfl<;>simp only[hm,hp,hF]
   .by_cases hf:n<=pinL l
    .simp[hf]
     exact⟨l,P1,A,aZ λW r lv H=>sq H hat hj e0 hf⟩
    .simp[hf]
     have hlt:=BP hj e0;have hps':pinL (l.set j {l[j]with pins:=1})=pinL l+1:=by have hps:=i6 hj {l[j]with pins:=1};simp only[e0]at hps;simpa using hps
     exact⟨_,P.set hj {l[j]with pins:=1} rfl (by show 1<=c+1;omega) (by omega),A.setP P.rise hj,gv λW r lv H=>pT H hat hj e0 hf⟩
   .simp
    exact⟨l,P1,A,aZ λW r lv H=>xX H hat hj e0⟩
   .simp
    exact⟨l,P1,A,aZ λW r lv H=>wY H hat hj e0⟩
   .simp
    exact⟨l,P1,A,aZ λW r lv H=>xT H hat hj e0⟩
   .simp
    exact⟨l,P1,A,aZ λW r lv H=>Ed H hat hj⟩
   .simp
    exact⟨_,P.cut hj,A.cut P.rise hj,nB λW r lv H=>wi H hat hj e0⟩
  |succ q=>
   rw[e0]at hp;have hpos:=zr hj e0;have hq:q+1<=c:=by have:=P.pb _ (List.getElem_mem hj);omega
   rcases hk with rfl|rfl|rfl|rfl|rfl|rfl<;>simp only[hm,hp,hF,hv]
   .simp
    have hps':pinL (l.set j {l[j]with pins:=q+2})=pinL l:=by have hps:=i6 hj {l[j]with pins:=q+2};simp only[e0]at hps;simpa using hps
    exact⟨_,P.set hj {l[j]with pins:=q+2} rfl (by show q+2<=c+1;omega) (by have:=P.hp;omega),A.setP P.rise hj,gv λW r lv H=>rV H hat hj e0 (by omega)⟩
   .simp
    have hps:pinL (l.set j {l[j]with pins:=q})<=pinL l:=Nat.le_of_add_le_add_right (b:=if 0<l[j].pins then 1 else 0) (Nat.le_trans (Nat.le_of_eq (i6 hj {l[j]with pins:=q})) (Nat.add_le_add_left (by show(if 0<q then 1 else 0)<=(if 0<l[j].pins then 1 else 0);rw[if_pos (show 0<l[j].pins by omega)];split<;>omega) _));exact⟨_,P.set hj {l[j]with pins:=q} rfl (by show q<=c+1;omega) (by have:=P.hp;omega),A.setP P.rise hj,gv λW r lv H=>Gd H hat hj e0⟩
   .simp
    exact⟨l,P1,A,aZ λW r lv H=>GJ H hat hj e0⟩
   .simp
    have hps':pinL (l.set j {l[j]with v:=x})=pinL l:=Nat.add_right_cancel (m:=if 0<l[j].pins then 1 else 0) (i6 hj {l[j]with v:=x});exact⟨_,P.set hj {l[j]with v:=x} rfl (by show l[j].pins<=c+1;omega) (by have:=P.hp;omega),A.setV P.rise hj,gv λW r lv H=>Gx H hat hj e0 hx⟩
   .simp
    exact⟨l,P1,A,aZ λW r lv H=>Ed H hat hj⟩
   .simp
    exact⟨l,P1,A,aZ λW r lv H=>oY H hat hj e0⟩
end
end
end Go.Proofs.YtoenclhimbpfeaaGreatDoor
