/- Part 5. -/
import Derived.Test.YtpkbkhffglikhaaGreatDoorM04
namespace Go.Proofs.YtpkbkhffglikhaaGreatDoor
set_option linter.all false
set_option maxHeartbeats 16000000
set_option maxRecDepth 100000
section
open Go.Maps Go.RowKit
section
variable{K:Type}
def updK[DecidableEq K]{β:Type}(m:K->β)(x:K)(y:β):K->β:=λz=>if z=x then y else m z
theorem updK_same[DecidableEq K]{β:Type}(m:K->β)(x:K)(y:β):updK m x y x=y:=by simp[updK]
theorem updK_other[DecidableEq K]{β:Type}(m:K->β){x z:K}(y:β)(h:¬z=x):updK m x y z=m z:=by simp[updK,h]
structure MK(P:Program)(t k e:TypeId)(eq:IntKind)(okK:K->Prop)(kv:K->Value)(kl:K->Lit):Prop where
 ut:P.underlying t=some (.map k e)
 ue:P.underlying e=some (.int eq)
 z:∀w:World,(zeroValue e).run P w=.ok (.int eq 0) w
 kd:Keyed P k
 ky:∀x,okK x->keyOf P k (kv x)=some (kl x)
 inj:∀x y,okK x->okK y->kl x=kl y->x=y
 lit:∀x,WideAt.IsKeyLit (kl x)
def SeesK(eq:IntKind)(okK:K->Prop)(kl:K->Lit)(D:DataW Unit)(m:K->Option Int):Prop:=∀x,okK x->(m x=none->Maps.has D (kl x)=false)/\∀y,m x=some y->Maps.has D (kl x)=true/\D.atKey (kl x) (.lit (.int eq 0))=.lit (.int eq y)
def MpK(P:Program)(k e:TypeId)(eq:IntKind)(okK:K->Prop)(kl:K->Lit)(w:World)(b c:Nat)(m:K->Option Int):Prop:=
 ∃D:DataW Unit,w.ownsMap P k (plainElem P e) b c D/\Maps.size D=c/\SeesK eq okK kl D m
variable{P:Program}{t k e:TypeId}{eq:IntKind}{okK:K->Prop}{kv:K->Value}{kl:K->Lit}{w w':World}{b c:Nat}{m:K->Option Int}
theorem owns_tightK{R:Value->Option (DataW Unit×List MemPlace)}{n:Nat}{D:DataW Unit}(h:w.ownsMap P k R b n D):w.ownsMap P k R b (Maps.size D) D:=by
 obtain⟨es,clock,hb,F,hs,rfl⟩:=h;exact⟨es,clock,hb,F,by rw[Maps.size_eq,length_read];exact Nat.le_refl _,rfl⟩
theorem MpK.lt(h:MpK P k e eq okK kl w b c m):b<w.heap.size:=by obtain⟨D,h,_⟩:=h;exact h.lt
theorem MpK.fr(h:MpK P k e eq okK kl w b c m){G:Nat->Prop}(f:Fr G w w')(hG:¬G b):MpK P k e eq okK kl w' b c m:=by
 have hl:=h.lt;obtain⟨D,⟨es,clock,hb,r⟩,r2⟩:=h;exact⟨D,⟨es,clock,by rw[f.block b hl hG];exact hb,r⟩,r2⟩
theorem MpK.made(P:Program)(k e:TypeId)(eq:IntKind)(okK:K->Prop)(kl:K->Lit)(w:World):MpK P k e eq okK kl (w.alloc (.map #[] 0)) w.heap.size 0 (λ_=>none):=
 ⟨.map [],World.ownsMap_made w P k _,rfl,λx _=>⟨λ_=>rfl,λy q=>(by cases q)⟩⟩
theorem turned_frK(h:w.mapTurned w' b):Fr (λi=>i=b) w w':=(Fr.refl _ w).grown h.grown (λi q=>.inl (by cases q;rfl))
theorem MpK.put_of[DecidableEq K]{D:DataW Unit}(M:MK P t k e eq okK kv kl){n:Nat}{x:K}{y:Int}(h:w'.ownsMap P k (plainElem P e) b n (D.put (kl x) (.lit (.int eq y))))(ht:Tidy D)(hs:Maps.size D=c)(hv:SeesK eq okK kl D m)(hx:okK x):
  MpK P k e eq okK kl w' b (if(m x).isSome then c else c+1) (updK m x (some y)):=by
 have hsz:=size_put (k:=kl x) ht (.lit (.int eq y))
 have hh:Maps.has D (kl x)=(m x).isSome:=by
  cases em:m x with
  |none=>exact(hv x hx).1 em
  |some z=>exact((hv x hx).2 z em).1
 rw[hs,hh]at hsz;refine⟨_,by rw[<-hsz];exact owns_tightK h,hsz,λz hz=>?_⟩;by_cases e1:z=x
 .subst e1
  rw[updK_same];exact⟨λq=>(by cases q),λy' q=>by cases q;exact⟨has_put_same ht.isMap (M.lit _) _,atKey_put_same ht.isMap (M.lit _) _ _⟩⟩
 .rw[updK_other _ _ e1]
  have ne:kl z≠kl x:=λq=>e1 (M.inj _ _ hz hx q)
  rw[has_put_other ne,atKey_put_other ne];exact hv z hz
theorem MpK.del_of[DecidableEq K](M:MK P t k e eq okK kv kl){D:DataW Unit}{n:Nat}{x:K}(h:w'.ownsMap P k (plainElem P e) b n (D.del (kl x)))(ht:Tidy D)(hs:Maps.size D=c)(hv:SeesK eq okK kl D m)(hx:okK x):
  MpK P k e eq okK kl w' b (if(m x).isSome then c-1 else c) (updK m x none):=by
 have hsz:=size_del (k:=kl x) ht
 have hh:Maps.has D (kl x)=(m x).isSome:=by
  cases em:m x with
  |none=>exact(hv x hx).1 em
  |some z=>exact((hv x hx).2 z em).1
 rw[hs,hh]at hsz
 have hsz':Maps.size (D.del (kl x))=if(m x).isSome then c-1 else c:=by
  split at hsz
  .rename_i q;rw[if_pos q];omega
  .rename_i q;rw[if_neg q];omega
 refine⟨_,by rw[<-hsz'];exact owns_tightK h,hsz',λz hz=>?_⟩;by_cases e1:z=x
 .subst e1
  rw[updK_same];exact⟨λ_=>has_del_same,λy' q=>(by cases q)⟩
 .rw[updK_other _ _ e1]
  have ne:kl z≠kl x:=λq=>e1 (M.inj _ _ hz hx q)
  rw[has_del_other ne,atKey_del_other ne];exact hv z hz
theorem MpK.look_run(M:MK P t k e eq okK kv kl)(h:MpK P k e eq okK kl w b c m){x:K}(hw:okK x):(Instr.lookup t (.map (some b)) (kv x) false).run P w=.ok (.int eq ((m x).getD 0)) w:=by
 obtain⟨D,h1,h2,h3⟩:=h;obtain⟨cc,hrun,hat,_⟩:=h1.lookup_int M.kd M.ut M.ue (M.z w) (M.ky _ hw)
 have:cc=(m x).getD 0:=by
  cases em:m x with
  |none=>
   rw[atKey_of_not_has ((h3 x hw).1 em)]at hat;simpa using hat.symm
  |some z=>
   rw[((h3 x hw).2 z em).2]at hat;simpa using hat.symm
 rw[hrun,this]
variable{ops:Array Oper}{rest:List Oper}{o:Oper}{a:Act}{Q:Exit->Act->World->Prop}
theorem wp_putK[DecidableEq K](M:MK P t k e eq okK kv kl)(h:MpK P k e eq okK kl w b c m)(hc:c<1000000)(hg:o.guard=none)(mo xo vo:Operand)(hop:o.op=Op.mapUpdate t mo xo vo)(hm:a.eval mo=.map (some b)){x:K}{y:Int}(hx:a.eval xo=kv x)(hv:a.eval vo=.int eq y)(hw:okK x)(hwy:(Lit.int eq y).wf=true)
  (hK:∀w',MpK P k e eq okK kl w' b (if(m x).isSome then c else c+1) (updK m x (some y))->Fr (λi=>i=b) w w'->wpList P ops Q rest (a.put o.dst undef) w'):wpList P ops Q (o::rest) a w:=by
 obtain⟨D,h1,h2,h3⟩:=h;refine wpList_mapUpdate_in w hg mo xo vo t hop k e M.kd M.ut (plainElem P e) b c D hm h1 (by unfold maxLen;omega) _ _ _ hx hv (M.ky _ hw) _ _ (plainElem_int M.ue hwy) (λw' h4 h5=>?_);exact hK w' (MpK.put_of M h4 (h1.tidy M.kd) h2 h3 hw) (turned_frK h5)
theorem wp_delK[DecidableEq K](M:MK P t k e eq okK kv kl)(h:MpK P k e eq okK kl w b c m)(hg:o.guard=none)(mo xo:Operand)(hop:o.op=Op.call {callee:=Callee.builtin Builtin.delete,args:=#[mo,xo],argTypes:=#[t,k]})(hm:a.eval mo=.map (some b)){x:K}(hx:a.eval xo=kv x)(hw:okK x)
  (hK:∀w',MpK P k e eq okK kl w' b (if(m x).isSome then c-1 else c) (updK m x none)->Fr (λi=>i=b) w w'->wpList P ops Q rest (a.put o.dst (.tuple #[])) w'):wpList P ops Q (o::rest) a w:=by
 obtain⟨D,h1,h2,h3⟩:=h;refine wpList_delete_own w hg mo xo t k hop e M.kd M.ut (plainElem P e) b c D hm h1 _ _ hx (M.ky _ hw) (λw' h4 h5=>?_);exact hK w' (MpK.del_of M h4 (h1.tidy M.kd) h2 h3 hw) (turned_frK h5)
end
end
section
open Go.Maps Go.Proofs.Tryz Go.RowKit
def isU32D(x:Nat):Prop:=x<4294967296
theorem isU32D.wf{x:Nat}(h:isU32D x):(Lit.int .u32 (x:Int)).wf=true:=WalkArith.wf_u32 ⟨by omega,by unfold isU32D at h;omega⟩
abbrev Acc:=Nat×Bool
def okA(k:Acc):Prop:=isU32D k.1
def kvA(k:Acc):Value:=.agg #[.int .u32 k.1,.bool k.2]
def klA(k:Acc):Lit:=.string (keyBytes [.int .u32 (k.1:Int),.bool k.2])
theorem laidOutA:laidOutB prog=true:=by kernel_rfl
theorem lawA:Keyed prog 82:=Keyed.of_law (deep_law_laid laidOutA (m:=2) (by omega) (of_decide_eq_true (by kernel_rfl)) (by kernel_rfl) (by kernel_rfl))
theorem cellsU32:prog.cellsOf 32=1:=by kernel_rfl
theorem cellsB:prog.cellsOf 4=1:=by kernel_rfl
theorem cellsAc:prog.cellsOf 82=2:=by kernel_rfl
theorem litsA(d:Nat)(x:Nat)(b:Bool)(hw:(Lit.int .u32 (x:Int)).wf=true):prog.keyLits (d+2) 82 [.int .u32 (x:Int),.bool b]=some [.int .u32 (x:Int),.bool b]:=by
 have e1:prog.keyLits (d+1) 32 [.int .u32 (x:Int)]=some [.int .u32 (x:Int)]:=by
  unfold Program.keyLits;rw[underlying32];simp[hw]
 have e2:prog.keyLits (d+1) 4 [.bool b]=some [.bool b]:=by
  unfold Program.keyLits;rw[underlying4]
 unfold Program.keyLits;rw[underlying82];simp[cellsAc,cellsU32,cellsB,e1,e2]
theorem keyA(k:Acc)(h:okA k):keyOf prog 82 (kvA k)=some (klA k):=by
 obtain⟨x,b⟩:=k;have hw:(Lit.int .u32 (x:Int)).wf=true:=isU32D.wf h;have h1:prog.keyType 82=true:=by kernel_rfl
 have h2:(Value.agg #[.int .u32 (x:Int),.bool b]).formed prog 82=true:=by
  simp[Value.formed,underlying82,cellsAc]
 obtain⟨d,hd⟩:∃d,prog.types.size+1=d+2:=⟨prog.types.size-1,by have:2<=prog.types.size:=of_decide_eq_true (by kernel_rfl);omega⟩;unfold keyOf kvA klA;rw[underlying82];simp only[h1,h2,Bool.and_true,if_true,hd]
 show(prog.keyLits (d+2) 82 [.int .u32 (x:Int),.bool b]).map _=_
 rw[litsA d x b hw];rfl
theorem injA(x y:Acc)(hx:okA x)(hy:okA y)(e:klA x=klA y):x=y:=by
 have h1:=keyA x hx;have h2:=keyA y hy;rw[<-e]at h2;have:=lawA.inj h1 h2;obtain⟨a,b⟩:=x;obtain⟨c,d⟩:=y;simp[kvA]at this;have h3:a=c:=by omega
 rw[h3,this.2]
theorem MKA:MK prog 75 82 3 .i64 okA kvA klA:=⟨underlying75,underlying3,λw=>by kernel_rfl,lawA,keyA,injA,λ_=>trivial⟩
structure DS where
 room:Nat
 np:Nat
 pg:Nat->Bool×Nat
 fl:Acc->Nat
 stops:Bool
 left:Nat
 rd:Nat
 wr:Nat
def dH(s:DS)(pv fv:Value)(mb:Nat):Nat->Value
 |0=>.int .i64 s.room
 |1=>pv
 |2=>fv
 |3=>.map (some mb)
 |4=>.bool s.stops
 |5=>.int .i64 s.left
 |6=>.int .i64 s.rd
 |7=>.int .i64 s.wr
 |_=>.int .i64 0
def pgF(pg:Nat->Bool×Nat)(i:Nat):Value:=if i%2=0 then .bool (pg (i/2)).1 else .int .u64 ((pg (i/2)).2:Nat)
theorem pgF_0(pg:Nat->Bool×Nat)(k:Nat):pgF pg (k*2)=.bool (pg k).1:=by
 have h1:k*2%2=0:=by omega
 have h2:k*2/2=k:=by omega
 simp[pgF,h1,h2]
theorem pgF_1(pg:Nat->Bool×Nat)(k:Nat):pgF pg (k*2+1)=.int .u64 ((pg k).2:Nat):=by
 have h1:(k*2+1)%2=1:=by omega
 have h2:(k*2+1)/2=k:=by omega
 simp[pgF,h1,h2]
theorem pgF_set1(pg:Nat->Bool×Nat)(k v:Nat):upd (pgF pg) (k*2+1) (.int .u64 (v:Nat))=pgF (upd pg k ((pg k).1,v)):=by
 funext j
 by_cases e:j=k*2+1
 .subst e;rw[upd_same,pgF_1,upd_same]
 .rw[upd_other _ _ e]
  unfold pgF;by_cases e2:j/2=k
  .have:j%2=0:=by omega
   simp[this,e2,upd_same]
  .rw[upd_other _ _ e2]
theorem pgF_set(pg:Nat->Bool×Nat)(k:Nat)(b:Bool)(v:Nat):upd (upd (pgF pg) (k*2) (.bool b)) (k*2+1) (.int .u64 (v:Nat))=pgF (upd pg k (b,v)):=by
 funext j
 by_cases e:j=k*2+1
 .subst e;rw[upd_same,pgF_1,upd_same]
 .rw[upd_other _ _ e]
  by_cases e3:j=k*2
  .subst e3;rw[upd_same,pgF_0,upd_same]
  .rw[upd_other _ _ e3]
   unfold pgF;rw[upd_other];omega
def isI63(x:Nat):Prop:=x<9223372036854775808
def flM(fl:Acc->Nat):Acc->Option Int:=λk=>if fl k=0 then none else some (fl k:Int)
structure DC(w:World)(db:Nat)(s:DS)(c:Nat)(pv fv:Value)(mb:Nat)(fh:Nat->Nat)(nf:Nat):Prop where
 hd:Blk w db 8 (dH s pv fv mb)
 po:SlF w 79 2 pv s.np (pgF s.pg)
 fo:SlF w 32 1 fv nf (uN fh)
 mp:MpK prog 82 3 .i64 okA klA w mb c (flM s.fl)
 n1:∀b,pv.ownBlock=some b->¬b=db/\¬b=mb/\¬fv.ownBlock=some b
 n2:∀b,fv.ownBlock=some b->¬b=db/\¬b=mb
 n3:¬mb=db
 r1:1<=s.room/\s.room<=65535
 r2:s.np<=s.room
 hp:IsHeap ltN fh nf
 inj:InjF (λx:Nat=>x) fh nf
 nn:nf<=s.np
 fm:∀x,(∃k,k<nf/\fh k=x)↔1<=x/\x<=s.np/\(s.pg (x-1)).1=false
 ct:c<1000000
 lr:isI63 s.left/\s.rd<1000000000/\s.wr<1000000000
 fb:∀a,isI63 (s.fl a)
def FD(db:Nat)(pv fv:Value)(mb:Nat):Nat->Prop:=λi=>i=db\/i=mb\/pv.ownBlock=some i\/fv.ownBlock=some i
def DS.has(s:DS)(id:Nat):Bool:=decide (1<=id/\id<=s.np)&&(s.pg (id-1)).1
section
variable{w w':World}{db c mb nf:Nat}{s:DS}{pv fv:Value}{fh:Nat->Nat}{F:Nat->Prop}
theorem DC.fr(h:DC w db s c pv fv mb fh nf){G:Nat->Prop}(f:Fr G w w')(hG:∀i,FD db pv fv mb i->¬G i):DC w' db s c pv fv mb fh nf:=
 ⟨h.hd.fr f (hG _ (.inl rfl)),h.po.fr f (λb q=>hG b (.inr (.inr (.inl q)))),h.fo.fr f (λb q=>hG b (.inr (.inr (.inr q)))),h.mp.fr f (hG _ (.inr (.inl rfl))),h.n1,h.n2,h.n3,h.r1,h.r2,h.hp,h.inj,h.nn,h.fm,h.ct,h.lr,h.fb⟩
theorem DC.fr0(h:DC w db s c pv fv mb fh nf)(f:Fr NoF w w'):DC w' db s c pv fv mb fh nf:=h.fr f (λ_ _ q=>q)
theorem DC.lt(h:DC w db s c pv fv mb fh nf):∀i,FD db pv fv mb i->i<w.heap.size:=by
 rintro i(rfl|rfl|q|q)
 .exact h.hd.lt
 .exact h.mp.lt
 .exact h.po.lt i q
 .exact h.fo.lt i q
theorem DC.ce(h:DC w db s c pv fv mb fh nf)(i:Nat)(hi:i<8):w.cell? ⟨db,i,none⟩=some (dH s pv fv mb i):=h.hd.cell hi
theorem dk_has(h:DC w db s c pv fv mb fh nf){id:Nat}(hu:isU32D id):Calls prog 56 #[.pointer (some ⟨db,0,none⟩),.int .u32 id] w λe w'=>e=.returned (.bool (s.has id))/\w=w':=by
 have c1:w.cell? ⟨db,1,none⟩=some pv:=h.ce 1 (by omega);have hr:=h.r1;have hr2:=h.r2;have hcv:IntKind.i64.wrap (id:Int)=(id:Int):=IntWalk.i64_in _ (by unfold isU32D at hu;omega);by_cases h1:1<=id
 .by_cases h2:id<=s.np
  .obtain⟨g,cap,rfl,q1,q2,q3,q4,q5⟩:=h.po.at (by omega)
   have cc:w.cell? ⟨g,(id-1)*2,none⟩=some (.bool (s.pg (id-1)).1):=by rw[q5 _ (by omega),pgF_0]
   have HE:Hid (s.has id=(s.pg (id-1)).1):=by unfold Hid DS.has;simp[h1,h2]
   rw[HE.out];generalize(s.pg (id-1)).1=z at*;unfold maxLen at q2;obtain⟨k,rfl⟩:∃k,id=k+1:=⟨id-1,by omega⟩;rw[show k+1-1=k from by omega]at cc;have hcv2:IntKind.i64.wrap ((k+1:Nat):Int)=((k+1:Nat):Int):=hcv;have hks:((k+1:Nat):Int)-1=(k:Int):=by omega
   clear h HE q4 q5 hu hcv;go_enter func56,ntmps56;go_wp2;go_returns;exact⟨by first|rfl|simp,rfl⟩
  .have HE:Hid (s.has id=false):=by unfold Hid DS.has;simp[h2]
   obtain⟨va,vc,rfl,_,_⟩:=h.po.shape;rw[HE.out];clear h HE hu;go_enter func56,ntmps56;go_wp2;go_returns;exact⟨rfl,rfl⟩
 .have HE:Hid (s.has id=false):=by unfold Hid DS.has;simp[h1]
  rw[HE.out];obtain rfl:id=0:=by omega
  clear h HE hu hcv;go_enter func56,ntmps56;go_wp2;go_returns;exact⟨rfl,rfl⟩
theorem dk_reads(h:DC w db s c pv fv mb fh nf):Calls prog 14 #[.pointer (some ⟨db,0,none⟩)] w λe w'=>e=.returned (.int .i64 s.rd)/\w=w':=by
 have c6:w.cell? ⟨db,6,none⟩=some (.int .i64 s.rd):=h.ce 6 (by omega);clear h;go_enter func14,ntmps14;go_wp2;go_returns;exact⟨rfl,rfl⟩
theorem dk_writes(h:DC w db s c pv fv mb fh nf):Calls prog 16 #[.pointer (some ⟨db,0,none⟩)] w λe w'=>e=.returned (.int .i64 s.wr)/\w=w':=by
 have c7:w.cell? ⟨db,7,none⟩=some (.int .i64 s.wr):=h.ce 7 (by omega);clear h;go_enter func16,ntmps16;go_wp2;go_returns;exact⟨rfl,rfl⟩
theorem DC.head(h:DC w db s c pv fv mb fh nf)(i:Nat)(u:Value){s':DS}(e:upd (dH s pv fv mb) i u=dH s' pv fv mb)(e1:s'.room=s.room)(e2:s'.np=s.np)(e3:s'.pg=s.pg)(e4:s'.fl=s.fl)(e5:isI63 s'.left/\s'.rd<1000000000/\s'.wr<1000000000):DC (w.setCell ⟨db,i,none⟩ u) db s' c pv fv mb fh nf/\Fr (λk=>k=db) w (w.setCell ⟨db,i,none⟩ u):=by
 have f:Fr (λk=>k=db) w (w.setCell ⟨db,i,none⟩ u):=(Fr.refl (λk=>k=db) w).setCell (p:=⟨db,i,none⟩) (.inl rfl) _;refine⟨⟨by rw[<-e];exact h.hd.set _ _,by rw[e2,e3];exact h.po.fr f (λb q e=>(h.n1 b q).1 e),h.fo.fr f (λb q e=>(h.n2 b q).1 e),by rw[e4];exact h.mp.fr f (λe=>h.n3 e),h.n1,h.n2,h.n3,by rw[e1];exact h.r1,by rw[e1,e2];exact h.r2,h.hp,h.inj,by rw[e2];exact h.nn,by rw[e2,e3];exact h.fm,h.ct,e5,by rw[e4];exact h.fb⟩,f⟩
theorem dH_5(s:DS)(pv fv:Value)(mb:Nat)(b:Nat):upd (dH s pv fv mb) 5 (.int .i64 b)=dH {s with left:=b} pv fv mb:=by
 funext j
 match j with
 |0=>rfl
 |1=>rfl
 |2=>rfl
 |3=>rfl
 |4=>rfl
 |5=>rfl
 |6=>rfl
 |7=>rfl
 |j+8=>simp[upd,dH]
theorem dH_6(s:DS)(pv fv:Value)(mb:Nat)(b:Nat):upd (dH s pv fv mb) 6 (.int .i64 b)=dH {s with rd:=b} pv fv mb:=by
 funext j
 match j with
 |0=>rfl
 |1=>rfl
 |2=>rfl
 |3=>rfl
 |4=>rfl
 |5=>rfl
 |6=>rfl
 |7=>rfl
 |j+8=>simp[upd,dH]
theorem dH_7(s:DS)(pv fv:Value)(mb:Nat)(b:Nat):upd (dH s pv fv mb) 7 (.int .i64 b)=dH {s with wr:=b} pv fv mb:=by
 funext j
 match j with
 |0=>rfl
 |1=>rfl
 |2=>rfl
 |3=>rfl
 |4=>rfl
 |5=>rfl
 |6=>rfl
 |7=>rfl
 |j+8=>simp[upd,dH]
theorem flM_upd(fl:Acc->Nat)(a:Acc)(k:Nat):flM (updK fl a k)=updK (flM fl) a (if k=0 then none else some (k:Int)):=by
 funext x
 unfold flM updK;by_cases e:x=a<;>simp[e]
theorem DC.fails(h:DC w db s c pv fv mb fh nf){c':Nat}{fl':Acc->Nat}(hm:MpK prog 82 3 .i64 okA klA w' mb c' (flM fl'))(f:Fr (λi=>i=mb) w w')(hc:c'<1000000)(hb:∀a,isI63 (fl' a)):DC w' db {s with fl:=fl'} c' pv fv mb fh nf:=
 ⟨h.hd.fr f (λe=>h.n3 e.symm),h.po.fr f (λb q=>(h.n1 b q).2.1),h.fo.fr f (λb q=>(h.n2 b q).2),hm,h.n1,h.n2,h.n3,h.r1,h.r2,h.hp,h.inj,h.nn,h.fm,hc,h.lr,hb⟩
theorem dk_fail_some(h:DC w db s c pv fv mb fh nf){id:Nat}(hu:isU32D id)(b:Bool){k:Nat}(hk:1<=k)(hkl:isI63 k)(hin:1<=id/\id<=s.room)(hc:s.fl (id,b)=0->c+1<1000000):Calls prog 57 #[.pointer (some ⟨db,0,none⟩),.int .u32 id,.bool b,.int .i64 k] w λe w'=>e=.returned (.tuple #[])/\
  (∃c',c'<=c+1/\(¬s.fl (id,b)=0->c'=c)/\DC w' db {s with fl:=updK s.fl (id,b) k} c' pv fv mb fh nf)/\Fr (λi=>i=mb) w w':=by
 have c0:w.cell? ⟨db,0,none⟩=some (.int .i64 s.room):=h.ce 0 (by omega);have c3:w.cell? ⟨db,3,none⟩=some (.map (some mb)):=h.ce 3 (by omega);have hcv:IntKind.i64.wrap (id:Int)=(id:Int):=IntWalk.i64_in _ (by unfold isU32D at hu;omega);have HM:=Hd h.mp;have HOK:Hid (okA (id,b)):=hu;have HWF:Hid ((Lit.int .i64 (k:Int)).wf=true):=WalkArith.wf_i64 ⟨by omega,by unfold isI63 at hkl;omega⟩
 have KEY:Hid (∀w',MpK prog 82 3 .i64 okA klA w' mb (if(flM s.fl (id,b)).isSome then c else c+1) (updK (flM s.fl) (id,b) (some (k:Int)))->Fr (λi=>i=mb) w w'->
   (∃c',c'<=c+1/\(¬s.fl (id,b)=0->c'=c)/\DC w' db {s with fl:=updK s.fl (id,b) k} c' pv fv mb fh nf)/\Fr (λi=>i=mb) w w'):=by
  intro w' hm f;refine⟨⟨_,?_,λhn=>?_,h.fails (c':=if(flM s.fl (id,b)).isSome then c else c+1) (by rw[flM_upd,show(if k=0 then none else some (k:Int))=some (k:Int)from if_neg (by omega)];exact hm) f ?_ (λa=>by unfold updK;split;exact hkl;exact h.fb a)⟩,f⟩
  rotate_left 2
  .split
   .exact h.ct
   .rename_i q;exact hc (by unfold flM at q;split at q;assumption;exact(q rfl).elim)
  .split<;>omega
  .rw[if_pos];unfold flM;rw[if_neg hn];rfl
 have hct:=h.ct;have h1:=hin.1;have h2:=hin.2;have hr:=h.r1;have HKL:=Hd hkl;clear h hu hin hkl;go_enter func57,ntmps57
 go_wp2_with(at_mapUpdate;go_must(refine wp_putK MKA HM.out hct rfl _ _ _ rfl (by rfl) (x:=(id,b)) (by rfl) (by rfl) HOK.out HWF.out ?_);intro w1 hm1 f1;have K:=Hd (KEY.out w1 hm1 f1);clear hm1 f1)
 go_returns;exact⟨rfl,K.out⟩
theorem dk_fail_none(h:DC w db s c pv fv mb fh nf){id:Nat}(hu:isU32D id)(b:Bool){t:Int}(ht:t<1)(hin:1<=id/\id<=s.room):Calls prog 57 #[.pointer (some ⟨db,0,none⟩),.int .u32 id,.bool b,.int .i64 t] w λe w'=>e=.returned (.tuple #[])/\
  (∃c',c'<=c/\DC w' db {s with fl:=updK s.fl (id,b) 0} c' pv fv mb fh nf)/\Fr (λi=>i=mb) w w':=by
 have c0:w.cell? ⟨db,0,none⟩=some (.int .i64 s.room):=h.ce 0 (by omega);have c3:w.cell? ⟨db,3,none⟩=some (.map (some mb)):=h.ce 3 (by omega);have hcv:IntKind.i64.wrap (id:Int)=(id:Int):=IntWalk.i64_in _ (by unfold isU32D at hu;omega);have HM:=Hd h.mp;have HOK:Hid (okA (id,b)):=hu
 have KEY:Hid (∀w',MpK prog 82 3 .i64 okA klA w' mb (if(flM s.fl (id,b)).isSome then c-1 else c) (updK (flM s.fl) (id,b) none)->Fr (λi=>i=mb) w w'->
   (∃c',c'<=c/\DC w' db {s with fl:=updK s.fl (id,b) 0} c' pv fv mb fh nf)/\Fr (λi=>i=mb) w w'):=by
  intro w' hm f;have:=h.ct;exact⟨⟨_,by split<;>omega,h.fails (c':=if(flM s.fl (id,b)).isSome then c-1 else c) (by rw[flM_upd,if_pos rfl];exact hm) f (by split<;>omega) (λa=>by unfold updK;split;unfold isI63;omega;exact h.fb a)⟩,f⟩
 have h1:=hin.1;have h2:=hin.2;have hr:=h.r1;clear h hu hin;go_enter func57,ntmps57
 go_wp2_with(at_delete;go_must(refine wp_delK MKA HM.out rfl _ _ rfl (by rfl) (x:=(id,b)) (by rfl) HOK.out ?_);intro w1 hm1 f1;have K:=Hd (KEY.out w1 hm1 f1);clear hm1 f1)
 go_returns;exact⟨rfl,K.out⟩
end
def DS.att(s:DS)(id:Nat)(b:Bool):Nat×DS:=
 if s.has id then
  if s.stops/\s.left=0 then(7,s)
  else if¬s.fl (id,b)=0 then(7,{s with fl:=updK s.fl (id,b) (s.fl (id,b)-1)})
  else(0,if s.stops then{s with left:=s.left-1}else s)
 else(3,s)
section
variable{w w':World}{db c mb nf:Nat}{s:DS}{pv fv:Value}{fh:Nat->Nat}{F:Nat->Prop}
theorem dk_attempt(h:DC w db s c pv fv mb fh nf){id:Nat}(hu:isU32D id)(b:Bool):Calls prog 33 #[.pointer (some ⟨db,0,none⟩),.agg #[.int .u32 id,.bool b]] w λe w'=>e=.returned (.int .i64 (s.att id b).1)/\
  (∃c',c'<=c/\DC w' db (s.att id b).2 c' pv fv mb fh nf)/\Fr (λi=>i=db\/i=mb) w w':=by
 have c4:w.cell? ⟨db,4,none⟩=some (.bool s.stops):=h.ce 4 (by omega);have c5:w.cell? ⟨db,5,none⟩=some (.int .i64 s.left):=h.ce 5 (by omega);have c3:w.cell? ⟨db,3,none⟩=some (.map (some mb)):=h.ce 3 (by omega);have lb:=h.hd.lt;have f5:=h.hd.frozen 5;have hlr:=h.lr.1;have HA:Hid (∀W,Fr NoF w W->Calls prog 56 #[.pointer (some ⟨db,0,none⟩),.int .u32 id] W λe w'=>e=.returned (.bool (s.has id))/\W=w'):=λW f=>dk_has (h.fr0 f) hu
 have fA:Fr NoF w (w.alloc (.cells #[.int .u32 id,.bool b] 82)):=(Fr.refl _ _).alloc _
 cases hh:s.has id with
 |false=>
  have HE:Hid (s.att id b=(3,s)):=by unfold Hid DS.att;rw[hh];rfl
  rw[HE.out];have HA1:=HA.out _ fA;rw[hh]at HA1;have H1:=Hd HA1;have HH:=Hd h;clear HA HA1 h hh hu;go_enter func33,ntmps33
  go_wp2_with fail
  refine H1.out.mono ?_;rintro e w'⟨rfl,rfl⟩;go_wp2;go_returns;exact⟨rfl,⟨c,Nat.le_refl _,HH.out.fr0 ((Fr.refl _ _).alloc _)⟩,(Fr.refl _ _).alloc _⟩
 |true=>
  have HA1:=HA.out _ fA;rw[hh]at HA1;have H1:=Hd HA1
  have hir:1<=id/\id<=s.room:=by
   have hr2:=h.r2;unfold DS.has at hh;simp at hh;omega
  by_cases hst:s.stops=true/\s.left=0
  .have HE:Hid (s.att id b=(7,s)):=by unfold Hid DS.att;rw[hh];simp[hst.1,hst.2]
   rw[HE.out];rw[hst.1]at c4;rw[hst.2]at c5;have HH:=Hd h;clear HA HA1 h hh hu hst;go_enter func33,ntmps33
   go_wp2_with fail
   refine H1.out.mono ?_;rintro e w'⟨rfl,rfl⟩;go_wp2;go_returns;exact⟨rfl,⟨c,Nat.le_refl _,HH.out.fr0 ((Fr.refl _ _).alloc _)⟩,(Fr.refl _ _).alloc _⟩
  .have HH:=Hd h
   have hfb:=h.fb (id,b)
   have HL:∀d,(Instr.lookup 75 (.map (some mb)) (.agg #[.int .u32 id,.bool b]) false).run prog ((w.alloc (.cells #[.int .u32 id,.bool b] 82)).drewN d)=.ok (.int .i64 (s.fl (id,b):Nat)) ((w.alloc (.cells #[.int .u32 id,.bool b] 82)).drewN d):=by
    intro d;have:=(((h.fr0 fA).fr0 ((Fr.refl NoF _).drewN d)).mp).look_run MKA (x:=(id,b)) hu
    have e:((flM s.fl (id,b)).getD 0)=((s.fl (id,b):Nat):Int):=by
     unfold flM;split
     .rename_i q;rw[q];rfl
     .rfl
    rw[e]at this;exact this
   have HF:Hid (∀d,∀z:Int,1<=s.fl (id,b)->z=(s.fl (id,b):Int)-1->Calls prog 57 #[.pointer (some ⟨db,0,none⟩),.int .u32 id,.bool b,.int .i64 z] ((w.alloc (.cells #[.int .u32 id,.bool b] 82)).drewN d) λe w'=>e=.returned (.tuple #[])/\(∃c',c'<=c/\DC w' db {s with fl:=updK s.fl (id,b) (s.fl (id,b)-1)} c' pv fv mb fh nf)/\Fr (λi=>i=db\/i=mb) w w'):=by
    intro d z hv hz;have fD:Fr NoF w ((w.alloc (.cells #[.int .u32 id,.bool b] 82)).drewN d):=fA.drewN d;have hct:=h.ct;by_cases h1:s.fl (id,b)=1
    .have e0:s.fl (id,b)-1=0:=by omega
     rw[e0];exact(dk_fail_none (h.fr0 fD) hu b (by omega) hir).mono λe w' ⟨he,q1,q4⟩=>⟨he,q1,(fD.mono (λ_ q=>q.elim)).trans q4 (λi q=>.inl (.inr q))⟩
    .have hz2:z=((s.fl (id,b)-1:Nat):Int):=by omega
     rw[hz2];exact(dk_fail_some (h.fr0 fD) hu b (k:=s.fl (id,b)-1) (by omega) (by unfold isI63 at*;omega) hir (λq=>by omega)).mono λe w' ⟨he,⟨c',q1,q2,q3⟩,q4⟩=>⟨he,⟨c',Nat.le_of_eq (q2 (by omega)),q3⟩,(fD.mono (λ_ q=>q.elim)).trans q4 (λi q=>.inl (.inr q))⟩
   have HE:Hid (s.att id b=if¬s.fl (id,b)=0 then(7,{s with fl:=updK s.fl (id,b) (s.fl (id,b)-1)})else(0,if s.stops then{s with left:=s.left-1}else s)):=by
    unfold Hid DS.att;rw[hh,if_pos rfl,if_neg hst]
   have HW:Hid (∀d,∀z:Int,1<=s.left->z=(s.left:Int)-1->DC (((w.alloc (.cells #[.int .u32 id,.bool b] 82)).drewN d).setCell ⟨db,5,none⟩ (.int .i64 z)) db {s with left:=s.left-1} c pv fv mb fh nf/\Fr (λi=>i=db\/i=mb) w (((w.alloc (.cells #[.int .u32 id,.bool b] 82)).drewN d).setCell ⟨db,5,none⟩ (.int .i64 z))):=by
    intro d z q1 q2;obtain rfl:z=((s.left-1:Nat):Int):=by omega
    have fD:Fr NoF w ((w.alloc (.cells #[.int .u32 id,.bool b] 82)).drewN d):=fA.drewN d;obtain⟨h1,f1⟩:=(h.fr0 fD).head 5 (.int .i64 (s.left-1:Nat)) (dH_5 _ pv fv mb (s.left-1)) rfl rfl rfl rfl ⟨by have:=h.lr.1;show isI63 (s.left-1);unfold isI63 at*;omega,h.lr.2⟩;exact⟨h1,(fD.mono (λ_ q=>q.elim)).trans f1 (λi q=>.inl (.inl q))⟩
   clear HA HA1 h hh hu
   cases hs1:s.stops with
   |false=>
    have HST:=Hd hs1;rw[hs1]at c4;clear hst HW hlr;obtain hv|hv:s.fl (id,b)=0\/1<=s.fl (id,b):=by omega
    .have HE2:Hid (s.att id b=(0,s)):=by unfold Hid;rw[HE.out,if_neg (by omega),hs1,if_neg (by simp)]
     rw[HE2.out];rw[hv]at HL;clear hv hfb HE HE2 HF;go_enter func33,ntmps33
     go_wp2_with fail
     refine H1.out.mono ?_;rintro e w'⟨rfl,rfl⟩;go_wp2
     go_quiet (fail)
     go_wp2;go_returns;exact⟨rfl,⟨c,Nat.le_refl _,(HH.out.fr0 fA).fr0 ((Fr.refl _ _).drewN _)⟩,(fA.mono (λ_ q=>q.elim)).drewN _⟩
    .have HV:=Hd hv
     have HFV:=Hd λd z=>HF.out d z hv
     have HE2:Hid (s.att id b=(7,{s with fl:=updK s.fl (id,b) (s.fl (id,b)-1)})):=by unfold Hid;rw[HE.out,if_pos (by omega)]
     rw[HE2.out];clear HE HE2 HF HV;generalize hq:s.fl (id,b)=v at HL hv hfb HFV⊢;have hv1:1<=(v:Int):=by omega
     have hvw:IntKind.i64.wrap ((v:Int)-1)=(v:Int)-1:=IntWalk.i64_in _ (by unfold isI63 at hfb;omega);clear hv hfb hq;go_enter func33,ntmps33
     go_wp2_with fail
     refine H1.out.mono ?_;rintro e w'⟨rfl,rfl⟩;go_wp2
     go_quiet (fail)
     go_wp2_with fail
     refine(HFV.out _ _ (by first|rfl|omega)).mono ?_;rintro e w2⟨rfl,h2⟩;have H2:=Hd h2;clear h2;go_wp2;go_returns;exact⟨rfl,H2.out⟩
   |true=>
    have HST:=Hd hs1;have hl0:¬s.left=0:=λq=>hst ⟨hs1,q⟩
    rw[hs1]at c4;have hlb:((s.left:Int)==0)=false:=by simp;omega
    have hl1:1<=(s.left:Int):=by omega
    have hlw:IntKind.i64.wrap ((s.left:Int)-1)=(s.left:Int)-1:=IntWalk.i64_in _ (by unfold isI63 at hlr;omega);clear hlr;clear hst;obtain hv|hv:s.fl (id,b)=0\/1<=s.fl (id,b):=by omega
    .have HE2:Hid (s.att id b=(0,{s with left:=s.left-1})):=by unfold Hid;rw[HE.out,if_neg (by omega),hs1,if_pos rfl]
     rw[HE2.out];have HWL:=Hd λd z=>HW.out d z (by omega)
     have HLE:=Hd (rfl:s.left-1=s.left-1);rw[hv]at HL;clear hv hfb HE HE2 HF HW;go_enter func33,ntmps33
     go_wp2_with fail
     refine H1.out.mono ?_;rintro e w'⟨rfl,rfl⟩;go_wp2
     go_quiet (fail)
     go_wp2;go_returns;refine⟨rfl,⟨c,Nat.le_refl _,?_⟩,?_⟩
     .exact(HWL.out _ _ (by first|rfl|omega)).1
     .exact(HWL.out _ _ (by first|rfl|omega)).2
    .have HV:=Hd hv
     clear HW;have HFV:=Hd λd z=>HF.out d z hv
     have HE2:Hid (s.att id b=(7,{s with fl:=updK s.fl (id,b) (s.fl (id,b)-1)})):=by unfold Hid;rw[HE.out,if_pos (by omega)]
     rw[HE2.out];clear HE HE2 HF HV;generalize hq:s.fl (id,b)=v at HL hv hfb HFV⊢;have hv1:1<=(v:Int):=by omega
     have hvw:IntKind.i64.wrap ((v:Int)-1)=(v:Int)-1:=IntWalk.i64_in _ (by unfold isI63 at hfb;omega);clear hv hfb hq;go_enter func33,ntmps33
     go_wp2_with fail
     refine H1.out.mono ?_;rintro e w'⟨rfl,rfl⟩;go_wp2
     go_quiet (fail)
     go_wp2_with fail
     refine(HFV.out _ _ (by first|rfl|omega)).mono ?_;rintro e w2⟨rfl,h2⟩;have H2:=Hd h2;clear h2;go_wp2;go_returns;exact⟨rfl,H2.out⟩
end
def dk0(room:Nat):DS:=⟨room,0,λ_=>(false,0),λ_=>0,false,0,0,0⟩
theorem flM_zero:flM (λ_=>0)=λ_=>none:=by funext k;rfl
theorem dk_new_yes(room:Nat)(w:World)(h1:1<=room)(h2:room<=65535):Calls prog 18 #[.int .i64 room] w λe w'=>∃db pv fv mb,e=.returned (.tuple #[.pointer (some ⟨db,0,none⟩),.int .i64 0])/\DC w' db (dk0 room) 0 pv fv mb (λ_=>0) 0/\(∀i,FD db pv fv mb i->w.heap.size<=i)/\Fr NoF w w':=by
 have hmm:=@run_makeMap prog
 have K:Hid (∀wz:World,wz=(w.alloc (.map #[] 0)).alloc (.cells #[.int .i64 room,.slice none 0 0,.slice none 0 0,.map (some w.heap.size),.bool false,.int .i64 0,.int .i64 0,.int .i64 0] 77)->∀db,db=w.heap.size+1->DC wz db (dk0 room) 0 (.slice none 0 0) (.slice none 0 0) w.heap.size (λ_=>0) 0/\Fr NoF w wz):=by
  rintro wz rfl db rfl;refine⟨⟨⟨_,_,heap_alloc_new _ _ _ (by simp),rfl,λi hi=>?_⟩,SlF.nil _ _ _ _,SlF.nil _ _ _ _,?_,λb q=>(by cases q),λb q=>(by cases q),by omega,⟨h1,h2⟩,Nat.zero_le _,λk _ q=>(by omega),λk m q=>(by omega),Nat.le_refl _,λx=>⟨λ⟨k,q,_⟩=>(by omega),λ⟨q1,q2,_⟩=>(by have:x<=0:=q2;omega)⟩,by omega,⟨by show isI63 0;unfold isI63;omega,by show(0:Nat)<_;omega,by show(0:Nat)<_;omega⟩,λa=>by show isI63 0;unfold isI63;omega⟩,((Fr.refl NoF w).alloc _).alloc _⟩
  .match i,hi with
   |0,_=>rfl
   |1,_=>rfl
   |2,_=>rfl
   |3,_=>rfl
   |4,_=>rfl
   |5,_=>rfl
   |6,_=>rfl
   |7,_=>rfl
  .have hm:MpK prog 82 3 .i64 okA klA (w.alloc (.map #[] 0)) w.heap.size 0 (flM (λ_=>0)):=by rw[flM_zero];exact MpK.made _ _ _ _ _ _ w
   exact hm.fr ((Fr.refl NoF _).alloc _) (λq=>q)
 go_enter func18,ntmps18;go_wp2;go_returns;obtain⟨h,f⟩:=K.out _ rfl _ rfl;refine⟨w.heap.size+1,_,_,_,rfl,h,λi q=>?_,f⟩;rcases q with q|q|q|q
 .omega
 .omega
 .cases q
 .cases q
section
variable{w w':World}{db c mb nf:Nat}{s:DS}{pv fv:Value}{fh:Nat->Nat}{F:Nat->Prop}
theorem DS.att_1(s:DS)(id:Nat)(b:Bool):(s.att id b).1=0/\s.has id=true\/(s.att id b).1=3\/(s.att id b).1=7:=by
 unfold DS.att
 split
 .rename_i q
  split
  .exact .inr (.inr rfl)
  .split
   .exact .inr (.inr rfl)
   .exact .inl ⟨rfl,q⟩
 .exact .inr (.inl rfl)
theorem DS.att_2(s:DS)(id:Nat)(b:Bool):(s.att id b).2.room=s.room/\(s.att id b).2.np=s.np/\(s.att id b).2.pg=s.pg/\(s.att id b).2.rd=s.rd/\(s.att id b).2.wr=s.wr:=by
 unfold DS.att
 split
 .split
  .exact⟨rfl,rfl,rfl,rfl,rfl⟩
  .split
   .exact⟨rfl,rfl,rfl,rfl,rfl⟩
   .dsimp only
    split<;>exact⟨rfl,rfl,rfl,rfl,rfl⟩
 .exact⟨rfl,rfl,rfl,rfl,rfl⟩
def DS.read(s:DS)(id:Nat):(Nat×Nat)×DS:=if(s.att id false).1=0 then(((s.pg (id-1)).2,0),{(s.att id false).2 with rd:=s.rd+1})else((0,(s.att id false).1),(s.att id false).2)
def DS.write(s:DS)(id v:Nat):Nat×DS:=if(s.att id true).1=0 then(0,{(s.att id true).2 with wr:=s.wr+1,pg:=upd s.pg (id-1) ((s.pg (id-1)).1,v)})else((s.att id true).1,(s.att id true).2)
theorem DC.value{g cap:Nat}(h:DC w db s c pv fv mb fh nf)(hpv:pv=.slice (some ⟨g,0,none⟩) s.np cap){k:Nat}(hk:k<s.np)(v:Nat):DC (w.setCell ⟨g,k*2+1,none⟩ (.int .u64 v)) db {s with pg:=upd s.pg k ((s.pg k).1,v)} c pv fv mb fh nf/\Fr (λi=>i=g) w (w.setCell ⟨g,k*2+1,none⟩ (.int .u64 v)):=by
 subst hpv;have f:Fr (λi=>i=g) w (w.setCell ⟨g,k*2+1,none⟩ (.int .u64 v)):=(Fr.refl (λi=>i=g) w).setCell (p:=⟨g,k*2+1,none⟩) (.inl rfl) _;obtain⟨n1,n2,n3⟩:=h.n1 g rfl;have hs:=h.po.set (i:=k*2+1) (by omega) (.int .u64 v);rw[pgF_set1]at hs;refine⟨⟨h.hd.fr f (λe=>n1 e.symm),hs,h.fo.fr f (λb q e=>n3 (by rw[<-e];exact q)),h.mp.fr f (λe=>n2 e.symm),h.n1,h.n2,h.n3,h.r1,h.r2,h.hp,h.inj,h.nn,λx=>?_,h.ct,h.lr,h.fb⟩,f⟩;rw[h.fm x]
 have e:(upd s.pg k ((s.pg k).1,v) (x-1)).1=(s.pg (x-1)).1:=by
  unfold upd;split
  .rename_i q;rw[q]
  .rfl
 show _↔1<=x/\x<=s.np/\(upd s.pg k ((s.pg k).1,v) (x-1)).1=false
 rw[e]
theorem dk_read(h:DC w db s c pv fv mb fh nf){id:Nat}(hu:isU32D id)(hrd:s.rd+1<1000000000):Calls prog 13 #[.pointer (some ⟨db,0,none⟩),.int .u32 id] w λe w'=>e=.returned (.tuple #[.int .u64 (s.read id).1.1,.int .i64 (s.read id).1.2])/\
  (∃c',c'<=c/\DC w' db (s.read id).2 c' pv fv mb fh nf)/\Fr (λi=>i=db\/i=mb) w w':=by
 have HA:=dk_attempt h hu false;obtain⟨a1,a2,a3,a4,a5⟩:=s.att_2 id false;rcases s.att_1 id false with⟨e,hh⟩|e|e
 .have HE:Hid (s.read id=(((s.pg (id-1)).2,0),{(s.att id false).2 with rd:=s.rd+1})):=by unfold Hid DS.read;rw[if_pos e]
  rw[HE.out];rw[e]at HA;have hid:1<=id/\id<=s.np:=by unfold DS.has at hh;simp at hh;omega
  have K:Hid (∀w1 c1,DC w1 db (s.att id false).2 c1 pv fv mb fh nf->∃g cap,pv=.slice (some ⟨g,0,none⟩) s.np cap/\¬g=db/\cap<=9223372036854775807/\s.np<=cap/\w1.cell? ⟨db,6,none⟩=some (.int .i64 s.rd)/\w1.cell? ⟨db,1,none⟩=some pv/\db<w1.heap.size/\g<w1.heap.size/\w1.frozen? ⟨db,6,none⟩=false/\w1.cell? ⟨g,(id-1)*2+1,none⟩=some (.int .u64 (s.pg (id-1)).2)/\
    Hid (∀z:Int,z=(s.rd:Int)+1->DC (w1.setCell ⟨db,6,none⟩ (.int .i64 z)) db {(s.att id false).2 with rd:=s.rd+1} c1 pv fv mb fh nf/\Fr (λk=>k=db) w1 (w1.setCell ⟨db,6,none⟩ (.int .i64 z)))):=by
   intro w1 c1 h1;obtain⟨g,cap,p1,p2,p3,p4,p5,p6⟩:=h1.po.at (by rw[a2];omega);rw[a2]at p1 p2 p6;have c6:w1.cell? ⟨db,6,none⟩=some (.int .i64 (s.att id false).2.rd):=h1.ce 6 (by omega);rw[a4]at c6;refine⟨g,cap,p1,(h1.n1 g (by rw[p1];rfl)).1,by unfold maxLen at p3;omega,p2,c6,h1.ce 1 (by omega),h1.hd.lt,p4,h1.hd.frozen 6,?_,?_⟩
   .rw[p6 _ (by omega),pgF_1,a3]
   .rintro z rfl
    exact h1.head 6 (.int .i64 ((s.rd+1:Nat):Int)) (dH_6 _ pv fv mb (s.rd+1)) rfl rfl rfl rfl ⟨h1.lr.1,hrd,h1.lr.2.2⟩
  have HA2:=Hd HA;obtain⟨k,rfl⟩:∃k,id=k+1:=⟨id-1,by omega⟩;rw[show k+1-1=k from by omega]at*;have hks:((k+1:Nat):Int)-1=(k:Int):=by omega
  have hkn:k<s.np:=by omega
  generalize(s.pg k).2=val at*;have hnr:=h.r2;have hrr:=h.r1;clear h HA a1 a2 a3 a4 a5 e hh HE hu hid;go_enter func13,ntmps13
  go_wp2_with fail
  refine HA2.out.mono ?_;rintro e w1⟨rfl,⟨c1,hc1,h1⟩,f1⟩;obtain⟨g,cap,hpv,hgd,hcap,hncap,c6,c1',lb,lg,fz,cg,KK⟩:=K.out w1 c1 h1;have HPV:=Hd hpv;rw[hpv]at c1';have HF1:=Hd f1;have HC1:=Hd hc1;clear h1 f1 hc1 K HA2 hpv;have hgd2:¬db=g:=λe=>hgd e.symm
  go_wp2;go_returns;obtain⟨q1,q2⟩:=KK.out _ (by first|rfl|omega);exact⟨rfl,⟨c1,HC1.out,q1⟩,HF1.out.trans q2 (λi q=>.inl (.inl q))⟩
 .have HE:Hid (s.read id=((0,3),(s.att id false).2)):=by unfold Hid DS.read;rw[if_neg (by omega),e]
  rw[HE.out];rw[e]at HA;have HA2:=Hd HA;clear h HA a1 a2 a3 a4 a5 e HE hu;go_enter func13,ntmps13
  go_wp2_with fail
  refine HA2.out.mono ?_;rintro e w1⟨rfl,h1⟩;have H1:=Hd h1;clear h1 HA2;go_wp2;go_returns;exact⟨rfl,H1.out⟩
 .have HE:Hid (s.read id=((0,7),(s.att id false).2)):=by unfold Hid DS.read;rw[if_neg (by omega),e]
  rw[HE.out];rw[e]at HA;have HA2:=Hd HA;clear h HA a1 a2 a3 a4 a5 e HE hu;go_enter func13,ntmps13
  go_wp2_with fail
  refine HA2.out.mono ?_;rintro e w1⟨rfl,h1⟩;have H1:=Hd h1;clear h1 HA2;go_wp2;go_returns;exact⟨rfl,H1.out⟩
end
section
variable{w w':World}{db c mb nf:Nat}{s:DS}{pv fv:Value}{fh:Nat->Nat}{F:Nat->Prop}
theorem dk_write(h:DC w db s c pv fv mb fh nf){id:Nat}(hu:isU32D id)(v:Nat)(hwr:s.wr+1<1000000000):Calls prog 55 #[.pointer (some ⟨db,0,none⟩),.int .u32 id,.int .u64 v] w λe w'=>e=.returned (.int .i64 (s.write id v).1)/\
  (∃c',c'<=c/\DC w' db (s.write id v).2 c' pv fv mb fh nf)/\Fr (λi=>i=db\/i=mb\/pv.ownBlock=some i) w w':=by
 have HA:=dk_attempt h hu true;obtain⟨a1,a2,a3,a4,a5⟩:=s.att_2 id true;rcases s.att_1 id true with⟨e,hh⟩|e|e
 .have HE:Hid (s.write id v=(0,{(s.att id true).2 with wr:=s.wr+1,pg:=upd s.pg (id-1) ((s.pg (id-1)).1,v)})):=by unfold Hid DS.write;rw[if_pos e]
  rw[HE.out];rw[e]at HA;have hid:1<=id/\id<=s.np:=by unfold DS.has at hh;simp at hh;omega
  have K:Hid (∀w1 c1,DC w1 db (s.att id true).2 c1 pv fv mb fh nf->∃g cap,pv=.slice (some ⟨g,0,none⟩) s.np cap/\¬g=db/\cap<=9223372036854775807/\s.np<=cap/\w1.cell? ⟨db,7,none⟩=some (.int .i64 s.wr)/\w1.cell? ⟨db,1,none⟩=some pv/\db<w1.heap.size/\g<w1.heap.size/\w1.frozen? ⟨db,7,none⟩=false/\w1.frozen? ⟨g,(id-1)*2+1,none⟩=false/\w1.cell? ⟨g,(id-1)*2+1,none⟩=some (.int .u64 (s.pg (id-1)).2)/\
    Hid (∀z:Int,z=(s.wr:Int)+1->DC ((w1.setCell ⟨db,7,none⟩ (.int .i64 z)).setCell ⟨g,(id-1)*2+1,none⟩ (.int .u64 v)) db {(s.att id true).2 with wr:=s.wr+1,pg:=upd s.pg (id-1) ((s.pg (id-1)).1,v)} c1 pv fv mb fh nf/\Fr (λk=>k=db\/pv.ownBlock=some k) w1 ((w1.setCell ⟨db,7,none⟩ (.int .i64 z)).setCell ⟨g,(id-1)*2+1,none⟩ (.int .u64 v)))):=by
   intro w1 c1 h1;obtain⟨g,cap,p1,p2,p3,p4,p5,p6⟩:=h1.po.at (by rw[a2];omega);rw[a2]at p1 p2 p6;have c7:w1.cell? ⟨db,7,none⟩=some (.int .i64 (s.att id true).2.wr):=h1.ce 7 (by omega);rw[a5]at c7;refine⟨g,cap,p1,(h1.n1 g (by rw[p1];rfl)).1,by unfold maxLen at p3;omega,p2,c7,h1.ce 1 (by omega),h1.hd.lt,p4,h1.hd.frozen 7,p5 _,?_,?_⟩
   .rw[p6 _ (by omega),pgF_1,a3]
   .rintro z rfl
    obtain⟨h2,f2⟩:=h1.head 7 (.int .i64 ((s.wr+1:Nat):Int)) (dH_7 _ pv fv mb (s.wr+1)) rfl rfl rfl rfl ⟨h1.lr.1,h1.lr.2.1,hwr⟩;obtain⟨h3,f3⟩:=h2.value (k:=id-1) (p1.trans (by rw[a2])) (by show id-1<(s.att id true).2.np;rw[a2];omega) v;have h4:DC ((w1.setCell ⟨db,7,none⟩ (.int .i64 ((s.wr+1:Nat):Int))).setCell ⟨g,(id-1)*2+1,none⟩ (.int .u64 v)) db {(s.att id true).2 with wr:=s.wr+1,pg:=upd (s.att id true).2.pg (id-1) (((s.att id true).2.pg (id-1)).1,v)} c1 pv fv mb fh nf:=h3;rw[a3]at h4;exact⟨h4,(f2.mono (λi q=>.inl q)).trans f3 (λi q=>.inl (.inr (by rw[p1,q];rfl)))⟩
  have HA2:=Hd HA;obtain⟨k,rfl⟩:∃k,id=k+1:=⟨id-1,by omega⟩;rw[show k+1-1=k from by omega]at*;have hks:((k+1:Nat):Int)-1=(k:Int):=by omega
  have hkn:k<s.np:=by omega
  generalize(s.pg k).2=val at*;have hnr:=h.r2;have hrr:=h.r1;clear h HA a1 a2 a3 a4 a5 e hh HE hu hid;go_enter func55,ntmps55
  go_wp2_with fail
  refine HA2.out.mono ?_;rintro e w1⟨rfl,⟨c1,hc1,h1⟩,f1⟩;obtain⟨g,cap,hpv,hgd,hcap,hncap,c7,c1',lb,lg,fz,fg,cg,KK⟩:=K.out w1 c1 h1;have HPV:=Hd hpv;rw[hpv]at c1';have HF1:=Hd f1;have HC1:=Hd hc1;clear h1 f1 hc1 K HA2 hpv;have hgd2:¬db=g:=λe=>hgd e.symm
  go_wp2;go_returns;obtain⟨q1,q2⟩:=KK.out _ (by first|rfl|omega);exact⟨rfl,⟨c1,HC1.out,q1⟩,(HF1.out.mono (λi q=>by rcases q with q|q;exact .inl q;exact .inr (.inl q))).trans q2 (λi q=>.inl (by rcases q with q|q;exact .inl q;exact .inr (.inr q)))⟩
 .have HE:Hid (s.write id v=(3,(s.att id true).2)):=by unfold Hid DS.write;rw[if_neg (by omega),e]
  rw[HE.out];rw[e]at HA;have HA2:=Hd HA;clear h HA a1 a2 a3 a4 a5 e HE hu;go_enter func55,ntmps55
  go_wp2_with fail
  refine HA2.out.mono ?_;rintro e w1⟨rfl,h1,f1⟩;have H1:=Hd h1;have F1:=Hd f1;clear h1 f1 HA2;go_wp2;go_returns;exact⟨rfl,H1.out,F1.out.mono (λi q=>by rcases q with q|q;exact .inl q;exact .inr (.inl q))⟩
 .have HE:Hid (s.write id v=(7,(s.att id true).2)):=by unfold Hid DS.write;rw[if_neg (by omega),e]
  rw[HE.out];rw[e]at HA;have HA2:=Hd HA;clear h HA a1 a2 a3 a4 a5 e HE hu;go_enter func55,ntmps55
  go_wp2_with fail
  refine HA2.out.mono ?_;rintro e w1⟨rfl,h1,f1⟩;have H1:=Hd h1;have F1:=Hd f1;clear h1 f1 HA2;go_wp2;go_returns;exact⟨rfl,H1.out,F1.out.mono (λi q=>by rcases q with q|q;exact .inl q;exact .inr (.inl q))⟩
theorem EIp:EI prog 73 79 2 16:=EI.mk' (z:=.agg #[.bool false,.int .u64 0]) underlying73 (by kernel_rfl) rfl (by decide)
theorem dk_alloc_full(h:DC w db s c pv fv mb fh 0)(hr:¬s.np<s.room):Calls prog 43 #[.pointer (some ⟨db,0,none⟩)] w λe w'=>e=.returned (.tuple #[.int .u32 0,.int .i64 2])/\∃d,w.drewN d=w':=by
 have c0:w.cell? ⟨db,0,none⟩=some (.int .i64 s.room):=h.ce 0 (by omega);have c1:w.cell? ⟨db,1,none⟩=some pv:=h.ce 1 (by omega);have c2:w.cell? ⟨db,2,none⟩=some fv:=h.ce 2 (by omega);obtain⟨va,vc,rfl,v1,v2⟩:=h.po.shape;obtain⟨fa,fc,rfl,_,_⟩:=h.fo.shape;have hir:(s.room:Int)<=s.np:=by omega
 have hr1:=h.r1;have hr2:=h.r2;unfold maxLen at v2;clear h;go_enter func43,ntmps43;go_wp2
 go_quiet (fail)
 go_wp2;go_returns;exact⟨rfl,_,rfl⟩
def DS.grow(s:DS):DS:={s with np:=s.np+1,pg:=upd s.pg s.np (true,0)}
theorem DC.grow(h:DC w db s c pv fv mb fh nf)(hr:s.np<s.room){pv':Value}{w1:World}(hs:SlF w1 79 2 pv' (s.np+1) (upd (upd (pgF s.pg) (s.np*2) (.bool true)) (s.np*2+1) (.int .u64 0)))(f:Fr (λb=>pv.ownBlock=some b) w w1)(ho:∀b,pv'.ownBlock=some b->pv.ownBlock=some b\/w.heap.size<=b):
  DC (w1.setCell ⟨db,1,none⟩ pv') db s.grow c pv' fv mb fh nf/\Fr (λi=>i=db\/pv.ownBlock=some i) w (w1.setCell ⟨db,1,none⟩ pv'):=by
 have f2:Fr (λi=>i=db) w1 (w1.setCell ⟨db,1,none⟩ pv'):=(Fr.refl (λi=>i=db) w1).setCell (p:=⟨db,1,none⟩) (.inl rfl) _;have f3:Fr (λi=>i=db\/pv.ownBlock=some i) w (w1.setCell ⟨db,1,none⟩ pv'):=(f.mono (λi q=>.inr q)).trans f2 (λi q=>.inl (.inl q));have hl:=h.hd.lt;have hm:=h.mp.lt
 have n1':∀b,pv'.ownBlock=some b->¬b=db/\¬b=mb/\¬fv.ownBlock=some b:=by
  intro b q;rcases ho b q with q|q
  .exact h.n1 b q
  .exact⟨by omega,by omega,λq2=>by have:=h.fo.lt b q2;omega⟩
 have hb1:=(h.hd.fr f (λe=>(h.n1 db e).1 rfl)).set 1 pv'
 have eh:upd (dH s pv fv mb) 1 pv'=dH s.grow pv' fv mb:=by
  funext j
  match j with
  |0=>rfl
  |1=>rfl
  |2=>rfl
  |3=>rfl
  |4=>rfl
  |5=>rfl
  |6=>rfl
  |7=>rfl
  |j+8=>simp[upd,dH]
 rw[eh]at hb1;rw[show(Value.int .u64 0)=.int .u64 ((0:Nat):Int)from rfl,pgF_set]at hs;refine⟨⟨hb1,hs.fr f2 (λb q e=>(n1' b q).1 e),h.fo.fr f3 (λb q e=>by rcases e with e|e;exact(h.n2 b q).1 e;exact(h.n1 b e).2.2 q),h.mp.fr f3 (λe=>by rcases e with e|e;exact h.n3 e;exact(h.n1 mb e).2.1 rfl),n1',h.n2,h.n3,h.r1,by show s.np+1<=s.room;omega,h.hp,h.inj,by show nf<=s.np+1;exact Nat.le_succ_of_le h.nn,λx=>?_,h.ct,h.lr,h.fb⟩,f3⟩;rw[h.fm x]
 show _↔1<=x/\x<=s.np+1/\(upd s.pg s.np (true,0) (x-1)).1=false
 by_cases e:x-1=s.np
 .rw[e,upd_same]
  constructor
  .intro q;omega
  .intro q;exact absurd q.2.2 (by simp)
 .rw[upd_other _ _ e]
  constructor
  .intro q;exact⟨q.1,by omega,q.2.2⟩
  .intro q;exact⟨q.1,by omega,q.2.2⟩
theorem dk_alloc_new(h:DC w db s c pv fv mb fh 0)(hr:s.np<s.room):Calls prog 43 #[.pointer (some ⟨db,0,none⟩)] w λe w'=>e=.returned (.tuple #[.int .u32 (s.np+1:Nat),.int .i64 0])/\
  (∃pv',DC w' db s.grow c pv' fv mb fh 0/\∀b,pv'.ownBlock=some b->pv.ownBlock=some b\/w.heap.size<=b)/\Fr (λi=>i=db\/pv.ownBlock=some i) w w':=by
 have c0:w.cell? ⟨db,0,none⟩=some (.int .i64 s.room):=h.ce 0 (by omega);have c1:w.cell? ⟨db,1,none⟩=some pv:=h.ce 1 (by omega);have c2:w.cell? ⟨db,2,none⟩=some fv:=h.ce 2 (by omega);obtain⟨va,vc,rfl,v1,v2⟩:=h.po.shape;obtain⟨fa,fc,rfl,_,_⟩:=h.fo.shape;have hr1:=h.r1;have hr2:=h.r2;have hri:(s.np:Int)<s.room:=by omega
 have lb:=h.hd.lt;have hcv:IntKind.u32.wrap ((s.np+1:Nat):Int)=((s.np+1:Nat):Int):=IntWalk.u32_in _ (by omega);unfold maxLen at v2;have HP:=Hd h.po
 have K:Hid (∀d pv' w2,SlF w2 79 2 pv' (s.np+1) (upd (upd (pgF s.pg) (s.np*2) (.bool true)) (s.np*2+1) (.int .u64 0))->Fr (λb=>(Value.slice va s.np vc).ownBlock=some b) ((w.drewN d).alloc (.cells #[.bool true,.int .u64 0] 79)) w2->(∀b,pv'.ownBlock=some b->(Value.slice va s.np vc).ownBlock=some b\/((w.drewN d).alloc (.cells #[.bool true,.int .u64 0] 79)).heap.size<=b)->
   (∃a8 c8,pv'=.slice a8 (s.np+1:Nat) c8)/\db<w2.heap.size/\w2.cell? ⟨db,1,none⟩=some (.slice va s.np vc)/\w2.frozen? ⟨db,1,none⟩=false/\
   Hid ((∃pv'',DC (w2.setCell ⟨db,1,none⟩ pv') db s.grow c pv'' (.slice fa 0 fc) mb fh 0/\∀b,pv''.ownBlock=some b->(Value.slice va s.np vc).ownBlock=some b\/w.heap.size<=b)/\Fr (λi=>i=db\/(Value.slice va s.np vc).ownBlock=some i) w (w2.setCell ⟨db,1,none⟩ pv'))/\
   (w2.setCell ⟨db,1,none⟩ pv').cell? ⟨db,1,none⟩=some pv'):=by
  intro d pv' w2 hs f hob;have f0:Fr (λb=>(Value.slice va s.np vc).ownBlock=some b) w w2:=Fr.trans (Fr.none (((Fr.refl NoF w).drewN d).alloc _)) f (λi q=>.inl q);have ho:∀b,pv'.ownBlock=some b->(Value.slice va s.np vc).ownBlock=some b\/w.heap.size<=b:=λb q=>(hob b q).imp id (λq=>by simp at q;omega)
  obtain⟨g1,g2⟩:=h.grow hr hs f0 ho;obtain⟨a8,c8,e,_,_⟩:=hs.shape;have hb2:=h.hd.fr f0 (λe=>(h.n1 db e).1 rfl);exact⟨⟨a8,c8,e⟩,hb2.lt,hb2.cell (i:=1) (by omega),hb2.frozen 1,⟨⟨pv',g1,ho⟩,g2⟩,g1.ce 1 (by omega)⟩
 clear h;go_enter func43,ntmps43;go_wp2
 go_quiet (fail)
 go_wp2_with(at_builtin;go_must(refine appLB (base:=0) EIp rfl _ _ rfl (by rfl) (by rfl) (Nat.zero_le _) (own_keep HP.out (by repeat(first|exact Fr.refl NoF _|apply Fr.drewN|apply Fr.alloc)) (λ_ _ q=>q)) (sl_heap (size:=2) (n:=1) (cs:=#[.bool true,.int .u64 0]) (heap_alloc_new _ _ _ (by simp)) (by rfl) (by unfold maxLen;omega) (by simp[Value.oneCell'])) (by unfold maxLen;omega) (by omega) ?_);intro v' w2 hown' hf' hob';obtain⟨⟨a8,c8,rfl⟩,k2,k3,k4,k5,k6⟩:=K.out _ _ w2 (SlF.snoc2 hown') hf' hob';clear hown' hf' hob')
 go_returns;exact⟨by first|rfl|(rw[<-hcv]),k5.out⟩
end
end
end Go.Proofs.YtpkbkhffglikhaaGreatDoor
