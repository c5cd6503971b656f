/- Part 25. -/
import Derived.Test.YtoenclhimbpfeaaGreatDoorW07
namespace Go.Proofs.YtoenclhimbpfeaaGreatDoor
set_option linter.all false
set_option maxHeartbeats 16000000
set_option maxRecDepth 100000
section
open Go.Proofs.Tryz Go.RowKit
def ltN(x y:Nat):Bool:=decide (x<y)
theorem oW:Ord ltN:=⟨λx y h=>by unfold ltN at*;simp at*;omega,λx y z h1 h2=>by unfold ltN at*;simp at*;omega⟩
def sV(x:Nat):Value:=.iface 34 (.int .u32 (x:Nat))
def HRd(db:Nat)(hc:Nat->Value):World->(Nat->Nat)->Nat->(Nat->Prop)->Prop:=λw a n F=>∃fv,Blk w db 8 (upd hc 2 fv)/\SlF w 34 1 fv n (uN a)/\(∀b,fv.ownBlock=some b->¬b=db)/\n<1000000/\∀i,F i↔i=db\/fv.ownBlock=some i
section
variable{w w':World}{db n:Nat}{hc:Nat->Value}{a:Nat->Nat}{F:Nat->Prop}
theorem Cf(a:Nat->Nat)(i j:Nat):upd (upd (uN a) i (.int .u32 (a j:Nat))) j (.int .u32 (a i:Nat))=uN (swp a i j):=by
 funext k
 by_cases e1:k=j
 .subst e1;rw[upd_same];unfold uN swp;by_cases e2:k=i
  .rw[if_pos e2,e2]
  .rw[if_neg e2,if_pos rfl]
 .rw[aa _ _ e1]
  by_cases e2:k=i
  .subst e2;rw[upd_same];unfold uN swp;rw[if_pos rfl]
  .rw[aa _ _ e2];unfold uN swp;rw[if_neg e2,if_neg e1]
theorem EL(v:Value)(ad:Option Addr)(c:Nat)(hv:v=.slice ad n c):Calls prog 161 #[v] w λe w'=>e=.returned (.int .i64 (n:Nat))/\w=w':=by
 subst hv;go_enter func161,ntmps161;go_wp2;go_returns;exact⟨rfl,rfl⟩
theorem Cg{v:Value}(h:SlF w 34 1 v n (uN a))(hn:n<1000000){i j:Nat}(hi:i<n)(hj:j<n):Calls prog 162 #[v,.int .i64 i,.int .i64 j] w λe w'=>e=.returned (.bool (ltN (a i) (a j)))/\∃d,w.drewN d=w':=by
 obtain⟨g,cap,rfl,h1,h2,h3,h4,h5⟩:=h.at (by omega);have ci:w.cell? ⟨g,i,none⟩=some (.int .u32 (a i:Nat)):=h5 i (by omega);have cj:w.cell? ⟨g,j,none⟩=some (.int .u32 (a j:Nat)):=h5 j (by omega);have HL:Hid (ltN (a i) (a j)=decide (a i<a j)):=rfl;rw[HL.out];generalize a i=x at*;generalize a j=y at*;clear h h4 h5 HL;go_enter func162,ntmps162;go_wp2
 go_quiet (fail)
 go_wp2;go_returns;exact⟨by simp,_,rfl⟩
theorem Ce{g cap:Nat}(h:SlF w 34 1 (.slice (some ⟨g,0,none⟩) n cap) n (uN a))(hn:n<1000000){i j:Nat}(hi:i<n)(hj:j<n):Calls prog 163 #[.slice (some ⟨g,0,none⟩) n cap,.int .i64 i,.int .i64 j] w λe w'=>e=.returned (.tuple #[])/\SlF w' 34 1 (.slice (some ⟨g,0,none⟩) n cap) n (uN (swp a i j))/\Fr (λk=>k=g) w w':=by
 obtain⟨g',cap',e,h1,h2,h3,h4,h5⟩:=h.at (by omega);simp only[Value.slice.injEq,Option.some.injEq,Addr.mk.injEq]at e;obtain⟨⟨rfl,_⟩,_,rfl⟩:=e;have ci:w.cell? ⟨g,i,none⟩=some (.int .u32 (a i:Nat)):=h5 i (by omega);have cj:w.cell? ⟨g,j,none⟩=some (.int .u32 (a j:Nat)):=h5 j (by omega)
 have KEY:Hid (SlF (((w.setCell ⟨g,i,none⟩ (.int .u32 (a j:Nat))).setCell ⟨g,j,none⟩ (.int .u32 (a i:Nat))).drew) 34 1 (.slice (some ⟨g,0,none⟩) n cap) n (uN (swp a i j))/\Fr (λk=>k=g) w (((w.setCell ⟨g,i,none⟩ (.int .u32 (a j:Nat))).setCell ⟨g,j,none⟩ (.int .u32 (a i:Nat))).drew)):=by
  refine⟨?_,(((Fr.refl (λk=>k=g) w).setCell (p:=⟨g,i,none⟩) (.inl rfl) _).setCell (p:=⟨g,j,none⟩) (.inl rfl) _).drew⟩;rw[<-Cf a i j];exact((h.set (by omega) _).set (by omega) _).fr0 ((Fr.refl NoF _).drew)
 have f4:=h4;by_cases hij:i=j
 .subst hij
  generalize a i=x at*;clear h h4 h5 cj;go_enter func163,ntmps163;go_wp2
  go_region
  go_wp2;go_returns;exact⟨rfl,KEY.out⟩
 .have hji:¬j=i:=λe=>hij e.symm
  generalize a i=x at*;generalize a j=y at*;clear h h4 h5;go_enter func163,ntmps163;go_wp2
  go_region
  go_wp2;go_returns;exact⟨rfl,KEY.out⟩
theorem EIh:EI prog 70 34 1 4:=EI.mk' (z:=.int .u32 0) underlying70 (by kernel_rfl) rfl (by decide)
def okU(a:Nat->Nat)(n t:Nat):Prop:=n<900000
theorem CI{fv:Value}(hb:Blk w db 8 (upd hc 2 fv))(hs:SlF w 34 1 fv n (uN a))(hd:∀b,fv.ownBlock=some b->¬b=db)(hn:n<900000)(t:Nat):Calls prog 266 #[.pointer (some ⟨db,2,none⟩),sV t] w λe w'=>e=.returned (.tuple #[])/\
  ∃fv',Blk w' db 8 (upd hc 2 fv')/\SlF w' 34 1 fv' (n+1) (uN (upd a n t))/\(∀b,fv'.ownBlock=some b->¬b=db/\(fv.ownBlock=some b\/w.heap.size<=b))/\Fr (λi=>i=db\/fv.ownBlock=some i) w w':=by
 have c2:w.cell? ⟨db,2,none⟩=some fv:=by have:=hb.cell (i:=2) (by omega);rw[upd_same]at this;exact this
 have f2:=hb.frozen 2;have lb:=hb.lt;obtain⟨va,vc,rfl,v1,v2⟩:=hs.shape;have HB:=Hd hb;have HS:=Hd hs;have HD:=Hd hd;unfold sV;have hta:∀W:World,(Instr.typeAssert (.iface 34 (.int .u32 (t:Nat))) 20 34 false).run prog W=.ok (.int .u32 (t:Nat)) W:=λW=>by kernel_rfl
 clear hb hs hd;go_enter func266,ntmps266;go_wp2
 go_region_law(first
  |(refine eU (base:=0) EIh rfl (.tmp 7) (.tmp 10) rfl (by rfl) (by rfl) (Nat.zero_le _) (ak HS.out (by repeat(first|exact Fr.refl NoF _|apply Fr.drew|apply Fr.alloc)) (λ_ _ q=>q)) (jY (size:=1) (n:=1) (cs:=#[.int .u32 (t:Nat)]) (by(try rw[heap_drew]);refine heap_alloc_new _ _ _ ?_;simp) (by rfl) (by unfold maxLen;omega) (by simp[Value.oneCell'])) (by unfold maxLen;omega) (by omega) ?_;intro v' w2 hown' hf' hob';obtain⟨a8,c8,rfl,_,_⟩:=(SlF.snoc1 hown').shape;have hfw:=Fr.trans (F:=λb=>(Value.slice va n vc).ownBlock=some b) (a:=w) (Fr.none (by repeat(first|exact Fr.refl NoF _|apply Fr.drew|apply Fr.alloc))) hf' (λi hi=>.inl hi);have hb2:=HB.out.fr hfw (λe=>HD.out db e rfl);have g2:w2.cell? ⟨db,2,none⟩=some (.slice va n vc):=(by have:=hb2.cell (i:=2) (by omega);rw[upd_same]at this;exact this);have gf:=hb2.frozen 2;have gl:=hb2.lt;have HO':=Hd hown';have HF':=Hd hfw;have HOB:=Hd hob';have HB2:=Hd hb2;clear hown' hf' hob' hfw hb2))
 all_goals
  go_wp2;go_returns;refine⟨rfl,.slice a8 (n+1) c8,?_,?_,λb hb=>⟨λe=>?_,?_⟩,HF'.out.mono (λi q=>.inr q)|>.setCell (p:=⟨db,2,none⟩) (.inl (.inl rfl)) _⟩
  .have h1:=HB2.out.set 2 (.slice a8 (n+1) c8)
   have e2:upd (upd hc 2 (.slice va n vc)) 2 (.slice a8 (n+1) c8)=upd hc 2 (.slice a8 (n+1) c8):=by funext i;unfold upd;split<;>rfl
   rw[e2]at h1;exact h1
  .have h1:=SlF.snoc1 HO'.out
   have e2:upd (uN a) n (.int .u32 (t:Nat))=uN (upd a n t):=lU a n t;rw[e2]at h1;refine h1.fr ((Fr.refl (λi=>i=db) w2).setCell (p:=⟨db,2,none⟩) (.inl rfl) _) (λb hb e=>?_);rcases HOB.out b hb with q|q
   .exact HD.out b q e
   .have:=HB.out.lt;simp at q;omega
  .rcases HOB.out b hb with q|q
   .exact HD.out b q e
   .have:=HB.out.lt;simp at q;omega
  .rcases HOB.out b hb with q|q
   .exact .inl q
   .right;simp at q;omega
theorem EC{fv:Value}(hb:Blk w db 8 (upd hc 2 fv))(hs:SlF w 34 1 fv (n+1) (uN a))(hd:∀b,fv.ownBlock=some b->¬b=db)(hn:n+1<1000000):Calls prog 265 #[.pointer (some ⟨db,2,none⟩)] w λe w'=>e=.returned (sV (a n))/\
  ∃fv',Blk w' db 8 (upd hc 2 fv')/\SlF w' 34 1 fv' n (uN a)/\(∀b,fv'.ownBlock=some b↔fv.ownBlock=some b)/\Fr (λi=>i=db) w w':=by
 have c2:w.cell? ⟨db,2,none⟩=some fv:=by have:=hb.cell (i:=2) (by omega);rw[upd_same]at this;exact this
 have f2:=hb.frozen 2;have lb:=hb.lt;obtain⟨g,cap,rfl,h1,h2,h3,h4,h5⟩:=hs.at (by omega);have cn:w.cell? ⟨g,n,none⟩=some (.int .u32 (a n:Nat)):=h5 n (by omega);unfold maxLen at h2
 have R:Hid (∃fv',(fv'=.slice (some ⟨g,0,none⟩) n cap)/\Blk (w.setCell ⟨db,2,none⟩ (.slice (some ⟨g,0,none⟩) n cap)) db 8 (upd hc 2 fv')/\SlF (w.setCell ⟨db,2,none⟩ (.slice (some ⟨g,0,none⟩) n cap)) 34 1 fv' n (uN a)/\(∀b,fv'.ownBlock=some b↔(Value.slice (some ⟨g,0,none⟩) (n+1) cap).ownBlock=some b)/\Fr (λi=>i=db) w (w.setCell ⟨db,2,none⟩ (.slice (some ⟨g,0,none⟩) n cap))):=by
  have f:Fr (λi=>i=db) w (w.setCell ⟨db,2,none⟩ (.slice (some ⟨g,0,none⟩) n cap)):=(Fr.refl (λi=>i=db) w).setCell (p:=⟨db,2,none⟩) (.inl rfl) _;refine⟨_,rfl,?_,(hs.cut (m:=n) (by omega)).fr f (λb hb=>hd b hb),λb=>Iff.rfl,f⟩;have h1:=hb.set 2 (.slice (some ⟨g,0,none⟩) n cap);have e2:upd (upd hc 2 (.slice (some ⟨g,0,none⟩) (n+1) cap)) 2 (.slice (some ⟨g,0,none⟩) n cap)=upd hc 2 (.slice (some ⟨g,0,none⟩) n cap):=by funext i;unfold upd;split<;>rfl
  rw[e2]at h1;exact h1
 unfold sV;generalize a n=x at*;clear hb hs hd h4 h5;go_enter func265,ntmps265;go_wp2;go_returns;obtain⟨fv',rfl,r⟩:=R.out;exact⟨rfl,_,r⟩
theorem uP(db:Nat)(hc:Nat->Value):iO 195 161 162 163 266 265 ltN (HRd db hc) ⟨db,2,none⟩ sV okU where
 own:=⟨cu func161 (by kernel_rfl) rfl,cu func162 (by kernel_rfl) rfl,cu func163 (by kernel_rfl) rfl,cu func266 (by kernel_rfl) rfl,cu func265 (by kernel_rfl) rfl⟩
 fr:=by
  rintro w w' a n F G⟨fv,hb,hs,hd,hn,hF⟩f hG;exact⟨fv,hb.fr f (hG db ((hF db).2 (.inl rfl))),hs.fr f (λb q=>hG b ((hF b).2 (.inr q))),hd,hn,hF⟩
 bd:=by
  rintro w a n F⟨fv,hb,hs,hd,hn,hF⟩i hi;rcases(hF i).1 hi with rfl|q
  .exact hb.lt
  .exact hs.lt i q
 small:=by
  rintro w a n F⟨fv,hb,hs,hd,hn,hF⟩;exact hn
 len:=by
  rintro w a n F⟨fv,hb,hs,hd,hn,hF⟩;obtain⟨i,hi,hm⟩:=bh (P:=prog) (t:=195) (name:= "Len") (f:=161) (b:=false) (by kernel_rfl);have c2:w.cell? ⟨db,2,none⟩=some fv:=by have:=hb.cell (i:=2) (by omega);rw[upd_same]at this;exact this
  obtain⟨va,vc,e,_,_⟩:=hs.shape;exact⟨fv,eI hi hm underlying195 (by kernel_rfl) c2,(EL fv va vc e).mono λe w' ⟨he,hw⟩=>⟨he,hw▸Fr.refl _ _⟩⟩
 less:=by
  rintro w a n F i j⟨fv,hb,hs,hd,hn,hF⟩hi hj;obtain⟨ti,hti,hm⟩:=bh (P:=prog) (t:=195) (name:= "Less") (f:=162) (b:=false) (by kernel_rfl);have c2:w.cell? ⟨db,2,none⟩=some fv:=by have:=hb.cell (i:=2) (by omega);rw[upd_same]at this;exact this
  exact⟨fv,eI hti hm underlying195 (by kernel_rfl) c2,(Cg hs hn hi hj).mono λe w' ⟨he,d,hw⟩=>⟨he,hw▸(Fr.refl NoF w).drewN d⟩⟩
 swap:=by
  rintro w a n F i j⟨fv,hb,hs,hd,hn,hF⟩hi hj;obtain⟨ti,hti,hm⟩:=bh (P:=prog) (t:=195) (name:= "Swap") (f:=163) (b:=false) (by kernel_rfl);have c2:w.cell? ⟨db,2,none⟩=some fv:=by have:=hb.cell (i:=2) (by omega);rw[upd_same]at this;exact this
  obtain⟨g,cap,rfl,_,_,_,_,_⟩:=hs.at (by omega);refine⟨_,eI hti hm underlying195 (by kernel_rfl) c2,(Ce hs hn hi hj).mono λe w' ⟨he,h1,h2⟩=>⟨he,⟨_,hb.fr h2 (λe=>hd g rfl e.symm),h1,hd,hn,hF⟩,h2.mono (λk q=>(hF k).2 (.inr (by rw[q];rfl)))⟩⟩
 push:=by
  rintro w a n F t⟨fv,hb,hs,hd,hn,hF⟩ht;obtain⟨ti,hti,hm⟩:=bh (P:=prog) (t:=195) (name:= "Push") (f:=266) (b:=true) (by kernel_rfl);have ht:n<900000:=ht;refine⟨_,bG hti hm underlying195,(CI hb hs hd ht t).mono λe w' ⟨he,fv',h1,h2,h3,h4⟩=>⟨he,λi=>i=db\/fv'.ownBlock=some i,⟨fv',h1,h2,λb q=>(h3 b q).1,by omega,λi=>Iff.rfl⟩,h4.mono (λk q=>(hF k).2 q),λi q=>?_⟩⟩;rcases q with q|q
  .exact .inl ((hF i).2 (.inl q))
  .exact(h3 i q).2.imp (λq=>(hF i).2 (.inr q)) (λq=>q)
 pop:=by
  rintro w a n F⟨fv,hb,hs,hd,hn,hF⟩;obtain⟨ti,hti,hm⟩:=bh (P:=prog) (t:=195) (name:= "Pop") (f:=265) (b:=true) (by kernel_rfl);exact⟨_,bG hti hm underlying195,(EC hb hs hd hn).mono λe w' ⟨he,fv',h1,h2,h3,h4⟩=>⟨he,⟨fv',h1,h2,λb q=>hd b ((h3 b).1 q),by omega,λi=>by rw[hF,h3]⟩,h4.mono (λk q=>(hF k).2 (.inl q))⟩⟩
end
end
section
open Go.Maps Go.RowKit
section
variable{K:Type}
def bu[DecidableEq K]{β:Type}(m:K->β)(x:K)(y:β):K->β:=λz=>if z=x then y else m z
theorem m9[DecidableEq K]{β:Type}(m:K->β)(x:K)(y:β):bu m x y x=y:=by simp[bu]
theorem kU[DecidableEq K]{β:Type}(m:K->β){x z:K}(y:β)(h:¬z=x):bu m x y z=m z:=by simp[bu,h]
structure MK(P:Program)(t k e:TypeId)(eq:IntKind)(okK:K->Prop)(kv:K->Value)(kl:K->Lit):Prop where
 ut:P.underlying t=some (.map k e)
 ue:P.underlying e=some (.int eq)
 z:∀w:World,(zeroValue e).run P w=.ok (.int eq 0) w
 kd:Keyed P k
 ky:∀x,okK x->keyOf P k (kv x)=some (kl x)
 inj:∀x y,okK x->okK y->kl x=kl y->x=y
 lit:∀x,WideAt.IsKeyLit (kl x)
def yU(eq:IntKind)(okK:K->Prop)(kl:K->Lit)(D:DataW Unit)(m:K->Option Int):Prop:=∀x,okK x->(m x=none->Maps.has D (kl x)=false)/\∀y,m x=some y->Maps.has D (kl x)=true/\D.atKey (kl x) (.lit (.int eq 0))=.lit (.int eq y)
def MpK(P:Program)(k e:TypeId)(eq:IntKind)(okK:K->Prop)(kl:K->Lit)(w:World)(b c:Nat)(m:K->Option Int):Prop:=
 ∃D:DataW Unit,w.ownsMap P k (plainElem P e) b c D/\Maps.size D=c/\yU eq okK kl D m
variable{P:Program}{t k e:TypeId}{eq:IntKind}{okK:K->Prop}{kv:K->Value}{kl:K->Lit}{w w':World}{b c:Nat}{m:K->Option Int}
theorem jQ{R:Value->Option (DataW Unit×List MemPlace)}{n:Nat}{D:DataW Unit}(h:w.ownsMap P k R b n D):w.ownsMap P k R b (Maps.size D) D:=by
 obtain⟨es,clock,hb,F,hs,rfl⟩:=h;exact⟨es,clock,hb,F,by rw[Maps.size_eq,length_read];exact Nat.le_refl _,rfl⟩
theorem MpK.lt(h:MpK P k e eq okK kl w b c m):b<w.heap.size:=by obtain⟨D,h,_⟩:=h;exact h.lt
theorem MpK.fr(h:MpK P k e eq okK kl w b c m){G:Nat->Prop}(f:Fr G w w')(hG:¬G b):MpK P k e eq okK kl w' b c m:=by
 have hl:=h.lt;obtain⟨D,⟨es,clock,hb,r⟩,r2⟩:=h;exact⟨D,⟨es,clock,by rw[f.block b hl hG];exact hb,r⟩,r2⟩
theorem MpK.made(P:Program)(k e:TypeId)(eq:IntKind)(okK:K->Prop)(kl:K->Lit)(w:World):MpK P k e eq okK kl (w.alloc (.map #[] 0)) w.heap.size 0 (λ_=>none):=
 ⟨.map [],World.ownsMap_made w P k _,rfl,λx _=>⟨λ_=>rfl,λy q=>(by cases q)⟩⟩
theorem kX(h:w.mapTurned w' b):Fr (λi=>i=b) w w':=(Fr.refl _ w).grown h.grown (λi q=>.inl (by cases q;rfl))
theorem MpK.put_of[DecidableEq K]{D:DataW Unit}(M:MK P t k e eq okK kv kl){n:Nat}{x:K}{y:Int}(h:w'.ownsMap P k (plainElem P e) b n (D.put (kl x) (.lit (.int eq y))))(ht:Tidy D)(hs:Maps.size D=c)(hv:yU eq okK kl D m)(hx:okK x):
  MpK P k e eq okK kl w' b (if(m x).isSome then c else c+1) (bu m x (some y)):=by
 have hsz:=size_put (k:=kl x) ht (.lit (.int eq y))
 have hh:Maps.has D (kl x)=(m x).isSome:=by
  cases em:m x with
  |none=>exact(hv x hx).1 em
  |some z=>exact((hv x hx).2 z em).1
 rw[hs,hh]at hsz;refine⟨_,by rw[<-hsz];exact jQ h,hsz,λz hz=>?_⟩;by_cases e1:z=x
 .subst e1
  rw[m9];exact⟨λq=>(by cases q),λy' q=>by cases q;exact⟨has_put_same ht.isMap (M.lit _) _,atKey_put_same ht.isMap (M.lit _) _ _⟩⟩
 .rw[kU _ _ e1]
  have ne:kl z≠kl x:=λq=>e1 (M.inj _ _ hz hx q)
  rw[has_put_other ne,atKey_put_other ne];exact hv z hz
theorem MpK.del_of[DecidableEq K](M:MK P t k e eq okK kv kl){D:DataW Unit}{n:Nat}{x:K}(h:w'.ownsMap P k (plainElem P e) b n (D.del (kl x)))(ht:Tidy D)(hs:Maps.size D=c)(hv:yU eq okK kl D m)(hx:okK x):
  MpK P k e eq okK kl w' b (if(m x).isSome then c-1 else c) (bu m x none):=by
 have hsz:=size_del (k:=kl x) ht
 have hh:Maps.has D (kl x)=(m x).isSome:=by
  cases em:m x with
  |none=>exact(hv x hx).1 em
  |some z=>exact((hv x hx).2 z em).1
 rw[hs,hh]at hsz
 have hsz':Maps.size (D.del (kl x))=if(m x).isSome then c-1 else c:=by
  split at hsz
  .rename_i q;rw[if_pos q];omega
  .rename_i q;rw[if_neg q];omega
 refine⟨_,by rw[<-hsz'];exact jQ h,hsz',λz hz=>?_⟩;by_cases e1:z=x
 .subst e1
  rw[m9];exact⟨λ_=>has_del_same,λy' q=>(by cases q)⟩
 .rw[kU _ _ e1]
  have ne:kl z≠kl x:=λq=>e1 (M.inj _ _ hz hx q)
  rw[has_del_other ne,atKey_del_other ne];exact hv z hz
theorem MpK.look_run(M:MK P t k e eq okK kv kl)(h:MpK P k e eq okK kl w b c m){x:K}(hw:okK x):(Instr.lookup t (.map (some b)) (kv x) false).run P w=.ok (.int eq ((m x).getD 0)) w:=by
 obtain⟨D,h1,h2,h3⟩:=h;obtain⟨cc,hrun,hat,_⟩:=h1.lookup_int M.kd M.ut M.ue (M.z w) (M.ky _ hw)
 have:cc=(m x).getD 0:=by
  cases em:m x with
  |none=>
   rw[atKey_of_not_has ((h3 x hw).1 em)]at hat;simpa using hat.symm
  |some z=>
   rw[((h3 x hw).2 z em).2]at hat;simpa using hat.symm
 rw[hrun,this]
variable{ops:Array Oper}{rest:List Oper}{o:Oper}{a:Act}{Q:Exit->Act->World->Prop}
theorem BQ[DecidableEq K](M:MK P t k e eq okK kv kl)(h:MpK P k e eq okK kl w b c m)(hc:c<1000000)(hg:o.guard=none)(mo xo vo:Operand)(hop:o.op=Op.mapUpdate t mo xo vo)(hm:a.eval mo=.map (some b)){x:K}{y:Int}(hx:a.eval xo=kv x)(hv:a.eval vo=.int eq y)(hw:okK x)(hwy:(Lit.int eq y).wf=true)
  (hK:∀w',MpK P k e eq okK kl w' b (if(m x).isSome then c else c+1) (bu m x (some y))->Fr (λi=>i=b) w w'->wpList P ops Q rest (a.put o.dst undef) w'):wpList P ops Q (o::rest) a w:=by
 obtain⟨D,h1,h2,h3⟩:=h;refine wpList_mapUpdate_in w hg mo xo vo t hop k e M.kd M.ut (plainElem P e) b c D hm h1 (by unfold maxLen;omega) _ _ _ hx hv (M.ky _ hw) _ _ (plainElem_int M.ue hwy) (λw' h4 h5=>?_);exact hK w' (MpK.put_of M h4 (h1.tidy M.kd) h2 h3 hw) (kX h5)
theorem Du[DecidableEq K](M:MK P t k e eq okK kv kl)(h:MpK P k e eq okK kl w b c m)(hg:o.guard=none)(mo xo:Operand)(hop:o.op=Op.call {callee:=Callee.builtin Builtin.delete,args:=#[mo,xo],argTypes:=#[t,k]})(hm:a.eval mo=.map (some b)){x:K}(hx:a.eval xo=kv x)(hw:okK x)
  (hK:∀w',MpK P k e eq okK kl w' b (if(m x).isSome then c-1 else c) (bu m x none)->Fr (λi=>i=b) w w'->wpList P ops Q rest (a.put o.dst (.tuple #[])) w'):wpList P ops Q (o::rest) a w:=by
 obtain⟨D,h1,h2,h3⟩:=h;refine wpList_delete_own w hg mo xo t k hop e M.kd M.ut (plainElem P e) b c D hm h1 _ _ hx (M.ky _ hw) (λw' h4 h5=>?_);exact hK w' (MpK.del_of M h4 (h1.tidy M.kd) h2 h3 hw) (kX h5)
end
end
section
open Go.Maps Go.Proofs.Tryz Go.RowKit
def aN(x:Nat):Prop:=x<4294967296
theorem aN.wf{x:Nat}(h:aN x):(Lit.int .u32 (x:Int)).wf=true:=WalkArith.wf_u32 ⟨by omega,by unfold aN at h;omega⟩
abbrev Acc:=Nat×Bool
def okA(k:Acc):Prop:=aN k.1
def kvA(k:Acc):Value:=.agg #[.int .u32 k.1,.bool k.2]
def klA(k:Acc):Lit:=.string (keyBytes [.int .u32 (k.1:Int),.bool k.2])
theorem ym:laidOutB prog=true:=by kernel_rfl
theorem Fx:Keyed prog 86:=Keyed.of_law (deep_law_laid ym (m:=2) (by omega) (of_decide_eq_true (by kernel_rfl)) (by kernel_rfl) (by kernel_rfl))
theorem BF:prog.cellsOf 34=1:=by kernel_rfl
theorem EB:prog.cellsOf 4=1:=by kernel_rfl
theorem tU:prog.cellsOf 86=2:=by kernel_rfl
theorem GF(d:Nat)(x:Nat)(b:Bool)(hw:(Lit.int .u32 (x:Int)).wf=true):prog.keyLits (d+2) 86 [.int .u32 (x:Int),.bool b]=some [.int .u32 (x:Int),.bool b]:=by
 have e1:prog.keyLits (d+1) 34 [.int .u32 (x:Int)]=some [.int .u32 (x:Int)]:=by
  unfold Program.keyLits;rw[underlying34];simp[hw]
 have e2:prog.keyLits (d+1) 4 [.bool b]=some [.bool b]:=by
  unfold Program.keyLits;rw[underlying4]
 unfold Program.keyLits;rw[underlying86];simp[tU,BF,EB,e1,e2]
theorem ET(k:Acc)(h:okA k):keyOf prog 86 (kvA k)=some (klA k):=by
 obtain⟨x,b⟩:=k;have hw:(Lit.int .u32 (x:Int)).wf=true:=aN.wf h;have h1:prog.keyType 86=true:=by kernel_rfl
 have h2:(Value.agg #[.int .u32 (x:Int),.bool b]).formed prog 86=true:=by
  simp[Value.formed,underlying86,tU]
 obtain⟨d,hd⟩:∃d,prog.types.size+1=d+2:=⟨prog.types.size-1,by have:2<=prog.types.size:=of_decide_eq_true (by kernel_rfl);omega⟩;unfold keyOf kvA klA;rw[underlying86];simp only[h1,h2,Bool.and_true,if_true,hd]
 show(prog.keyLits (d+2) 86 [.int .u32 (x:Int),.bool b]).map _=_
 rw[GF d x b hw];rfl
theorem Hj(x y:Acc)(hx:okA x)(hy:okA y)(e:klA x=klA y):x=y:=by
 have h1:=ET x hx;have h2:=ET y hy;rw[<-e]at h2;have:=Fx.inj h1 h2;obtain⟨a,b⟩:=x;obtain⟨c,d⟩:=y;simp[kvA]at this;have h3:a=c:=by omega
 rw[h3,this.2]
theorem MKA:MK prog 68 86 3 .i64 okA kvA klA:=⟨underlying68,underlying3,λw=>by kernel_rfl,Fx,ET,Hj,λ_=>trivial⟩
structure DS where
 room:Nat
 np:Nat
 pg:Nat->Bool×Nat
 fl:Acc->Nat
 stops:Bool
 left:Nat
 rd:Nat
 wr:Nat
def dH(s:DS)(pv fv:Value)(mb:Nat):Nat->Value
 |0=>.int .i64 s.room
 |1=>pv
 |2=>fv
 |3=>.map (some mb)
 |4=>.bool s.stops
 |5=>.int .i64 s.left
 |6=>.int .i64 s.rd
 |7=>.int .i64 s.wr
 |_=>.int .i64 0
def pgF(pg:Nat->Bool×Nat)(i:Nat):Value:=if i%2=0 then .bool (pg (i/2)).1 else .int .u64 ((pg (i/2)).2:Nat)
theorem qn(pg:Nat->Bool×Nat)(k:Nat):pgF pg (k*2)=.bool (pg k).1:=by
 have h1:k*2%2=0:=by omega
 have h2:k*2/2=k:=by omega
 simp[pgF,h1,h2]
theorem kY(pg:Nat->Bool×Nat)(k:Nat):pgF pg (k*2+1)=.int .u64 ((pg k).2:Nat):=by
 have h1:(k*2+1)%2=1:=by omega
 have h2:(k*2+1)/2=k:=by omega
 simp[pgF,h1,h2]
theorem A4(pg:Nat->Bool×Nat)(k v:Nat):upd (pgF pg) (k*2+1) (.int .u64 (v:Nat))=pgF (upd pg k ((pg k).1,v)):=by
 funext j
 by_cases e:j=k*2+1
 .subst e;rw[upd_same,kY,upd_same]
 .rw[aa _ _ e]
  unfold pgF;by_cases e2:j/2=k
  .have:j%2=0:=by omega
   simp[this,e2,upd_same]
  .rw[aa _ _ e2]
theorem oX(pg:Nat->Bool×Nat)(k:Nat)(b:Bool)(v:Nat):upd (upd (pgF pg) (k*2) (.bool b)) (k*2+1) (.int .u64 (v:Nat))=pgF (upd pg k (b,v)):=by
 funext j
 by_cases e:j=k*2+1
 .subst e;rw[upd_same,kY,upd_same]
 .rw[aa _ _ e]
  by_cases e3:j=k*2
  .subst e3;rw[upd_same,qn,upd_same]
  .rw[aa _ _ e3]
   unfold pgF;rw[aa];omega
def bg(x:Nat):Prop:=x<9223372036854775808
def flM(fl:Acc->Nat):Acc->Option Int:=λk=>if fl k=0 then none else some (fl k:Int)
structure DC(w:World)(db:Nat)(s:DS)(c:Nat)(pv fv:Value)(mb:Nat)(fh:Nat->Nat)(nf:Nat):Prop where
 hd:Blk w db 8 (dH s pv fv mb)
 po:SlF w 83 2 pv s.np (pgF s.pg)
 fo:SlF w 34 1 fv nf (uN fh)
 mp:MpK prog 86 3 .i64 okA klA w mb c (flM s.fl)
 n1:∀b,pv.ownBlock=some b->¬b=db/\¬b=mb/\¬fv.ownBlock=some b
 n2:∀b,fv.ownBlock=some b->¬b=db/\¬b=mb
 n3:¬mb=db
 r1:1<=s.room/\s.room<=65535
 r2:s.np<=s.room
 hp:bt ltN fh nf
 inj:gN (λx:Nat=>x) fh nf
 nn:nf<=s.np
 fm:∀x,(∃k,k<nf/\fh k=x)↔1<=x/\x<=s.np/\(s.pg (x-1)).1=false
 ct:c<1000000
 lr:bg s.left/\s.rd<1000000000/\s.wr<1000000000
 fb:∀a,bg (s.fl a)
def FD(db:Nat)(pv fv:Value)(mb:Nat):Nat->Prop:=λi=>i=db\/i=mb\/pv.ownBlock=some i\/fv.ownBlock=some i
def DS.has(s:DS)(id:Nat):Bool:=decide (1<=id/\id<=s.np)&&(s.pg (id-1)).1
section
variable{w w':World}{db c mb nf:Nat}{s:DS}{pv fv:Value}{fh:Nat->Nat}{F:Nat->Prop}
theorem DC.fr(h:DC w db s c pv fv mb fh nf){G:Nat->Prop}(f:Fr G w w')(hG:∀i,FD db pv fv mb i->¬G i):DC w' db s c pv fv mb fh nf:=
 ⟨h.hd.fr f (hG _ (.inl rfl)),h.po.fr f (λb q=>hG b (.inr (.inr (.inl q)))),h.fo.fr f (λb q=>hG b (.inr (.inr (.inr q)))),h.mp.fr f (hG _ (.inr (.inl rfl))),h.n1,h.n2,h.n3,h.r1,h.r2,h.hp,h.inj,h.nn,h.fm,h.ct,h.lr,h.fb⟩
theorem DC.fr0(h:DC w db s c pv fv mb fh nf)(f:Fr NoF w w'):DC w' db s c pv fv mb fh nf:=h.fr f (λ_ _ q=>q)
theorem DC.lt(h:DC w db s c pv fv mb fh nf):∀i,FD db pv fv mb i->i<w.heap.size:=by
 rintro i(rfl|rfl|q|q)
 .exact h.hd.lt
 .exact h.mp.lt
 .exact h.po.lt i q
 .exact h.fo.lt i q
theorem DC.ce(h:DC w db s c pv fv mb fh nf)(i:Nat)(hi:i<8):w.cell? ⟨db,i,none⟩=some (dH s pv fv mb i):=h.hd.cell hi
theorem sZ(h:DC w db s c pv fv mb fh nf){id:Nat}(hu:aN id):Calls prog 45 #[.pointer (some ⟨db,0,none⟩),.int .u32 id] w λe w'=>e=.returned (.bool (s.has id))/\w=w':=by
 have c1:w.cell? ⟨db,1,none⟩=some pv:=h.ce 1 (by omega);have hr:=h.r1;have hr2:=h.r2;have hcv:IntKind.i64.wrap (id:Int)=(id:Int):=IntWalk.i64_in _ (by unfold aN at hu;omega);by_cases h1:1<=id
 .by_cases h2:id<=s.np
  .obtain⟨g,cap,rfl,q1,q2,q3,q4,q5⟩:=h.po.at (by omega)
   have cc:w.cell? ⟨g,(id-1)*2,none⟩=some (.bool (s.pg (id-1)).1):=by rw[q5 _ (by omega),qn]
   have HE:Hid (s.has id=(s.pg (id-1)).1):=by unfold Hid DS.has;simp[h1,h2]
   rw[HE.out];generalize(s.pg (id-1)).1=z at*;unfold maxLen at q2;obtain⟨k,rfl⟩:∃k,id=k+1:=⟨id-1,by omega⟩;rw[show k+1-1=k from by omega]at cc;have hcv2:IntKind.i64.wrap ((k+1:Nat):Int)=((k+1:Nat):Int):=hcv;have hks:((k+1:Nat):Int)-1=(k:Int):=by omega
   clear h HE q4 q5 hu hcv;go_enter func45,ntmps45;go_wp2;go_returns;exact⟨by first|rfl|simp,rfl⟩
  .have HE:Hid (s.has id=false):=by unfold Hid DS.has;simp[h2]
   obtain⟨va,vc,rfl,_,_⟩:=h.po.shape;rw[HE.out];clear h HE hu;go_enter func45,ntmps45;go_wp2;go_returns;exact⟨rfl,rfl⟩
 .have HE:Hid (s.has id=false):=by unfold Hid DS.has;simp[h1]
  rw[HE.out];obtain rfl:id=0:=by omega
  clear h HE hu hcv;go_enter func45,ntmps45;go_wp2;go_returns;exact⟨rfl,rfl⟩
theorem DC.head(h:DC w db s c pv fv mb fh nf)(i:Nat)(u:Value){s':DS}(e:upd (dH s pv fv mb) i u=dH s' pv fv mb)(e1:s'.room=s.room)(e2:s'.np=s.np)(e3:s'.pg=s.pg)(e4:s'.fl=s.fl)(e5:bg s'.left/\s'.rd<1000000000/\s'.wr<1000000000):DC (w.setCell ⟨db,i,none⟩ u) db s' c pv fv mb fh nf/\Fr (λk=>k=db) w (w.setCell ⟨db,i,none⟩ u):=by
 have f:Fr (λk=>k=db) w (w.setCell ⟨db,i,none⟩ u):=(Fr.refl (λk=>k=db) w).setCell (p:=⟨db,i,none⟩) (.inl rfl) _;refine⟨⟨by rw[<-e];exact h.hd.set _ _,by rw[e2,e3];exact h.po.fr f (λb q e=>(h.n1 b q).1 e),h.fo.fr f (λb q e=>(h.n2 b q).1 e),by rw[e4];exact h.mp.fr f (λe=>h.n3 e),h.n1,h.n2,h.n3,by rw[e1];exact h.r1,by rw[e1,e2];exact h.r2,h.hp,h.inj,by rw[e2];exact h.nn,by rw[e2,e3];exact h.fm,h.ct,e5,by rw[e4];exact h.fb⟩,f⟩
theorem GZ(s:DS)(pv fv:Value)(mb:Nat)(b:Bool):upd (dH s pv fv mb) 4 (.bool b)=dH {s with stops:=b} pv fv mb:=by
 funext j
 match j with
 |0=>rfl
 |1=>rfl
 |2=>rfl
 |3=>rfl
 |4=>rfl
 |5=>rfl
 |6=>rfl
 |7=>rfl
 |j+8=>simp[upd,dH]
theorem Gi(s:DS)(pv fv:Value)(mb:Nat)(b:Nat):upd (dH s pv fv mb) 5 (.int .i64 b)=dH {s with left:=b} pv fv mb:=by
 funext j
 match j with
 |0=>rfl
 |1=>rfl
 |2=>rfl
 |3=>rfl
 |4=>rfl
 |5=>rfl
 |6=>rfl
 |7=>rfl
 |j+8=>simp[upd,dH]
theorem Hb(s:DS)(pv fv:Value)(mb:Nat)(b:Nat):upd (dH s pv fv mb) 6 (.int .i64 b)=dH {s with rd:=b} pv fv mb:=by
 funext j
 match j with
 |0=>rfl
 |1=>rfl
 |2=>rfl
 |3=>rfl
 |4=>rfl
 |5=>rfl
 |6=>rfl
 |7=>rfl
 |j+8=>simp[upd,dH]
theorem G0(s:DS)(pv fv:Value)(mb:Nat)(b:Nat):upd (dH s pv fv mb) 7 (.int .i64 b)=dH {s with wr:=b} pv fv mb:=by
 funext j
 match j with
 |0=>rfl
 |1=>rfl
 |2=>rfl
 |3=>rfl
 |4=>rfl
 |5=>rfl
 |6=>rfl
 |7=>rfl
 |j+8=>simp[upd,dH]
theorem uR(fl:Acc->Nat)(a:Acc)(k:Nat):flM (bu fl a k)=bu (flM fl) a (if k=0 then none else some (k:Int)):=by
 funext x
 unfold flM bu;by_cases e:x=a<;>simp[e]
theorem DC.fails(h:DC w db s c pv fv mb fh nf){c':Nat}{fl':Acc->Nat}(hm:MpK prog 86 3 .i64 okA klA w' mb c' (flM fl'))(f:Fr (λi=>i=mb) w w')(hc:c'<1000000)(hb:∀a,bg (fl' a)):DC w' db {s with fl:=fl'} c' pv fv mb fh nf:=
 ⟨h.hd.fr f (λe=>h.n3 e.symm),h.po.fr f (λb q=>(h.n1 b q).2.1),h.fo.fr f (λb q=>(h.n2 b q).2),hm,h.n1,h.n2,h.n3,h.r1,h.r2,h.hp,h.inj,h.nn,h.fm,hc,h.lr,hb⟩
theorem nW(h:DC w db s c pv fv mb fh nf){id:Nat}(hu:aN id)(b:Bool){k:Nat}(hk:1<=k)(hkl:bg k)(hin:1<=id/\id<=s.room)(hc:s.fl (id,b)=0->c+1<1000000):Calls prog 46 #[.pointer (some ⟨db,0,none⟩),.int .u32 id,.bool b,.int .i64 k] w λe w'=>e=.returned (.tuple #[])/\
  (∃c',c'<=c+1/\(¬s.fl (id,b)=0->c'=c)/\DC w' db {s with fl:=bu s.fl (id,b) k} c' pv fv mb fh nf)/\Fr (λi=>i=mb) w w':=by
 have c0:w.cell? ⟨db,0,none⟩=some (.int .i64 s.room):=h.ce 0 (by omega);have c3:w.cell? ⟨db,3,none⟩=some (.map (some mb)):=h.ce 3 (by omega);have hcv:IntKind.i64.wrap (id:Int)=(id:Int):=IntWalk.i64_in _ (by unfold aN at hu;omega);have HM:=Hd h.mp;have HOK:Hid (okA (id,b)):=hu;have HWF:Hid ((Lit.int .i64 (k:Int)).wf=true):=WalkArith.wf_i64 ⟨by omega,by unfold bg at hkl;omega⟩
 have KEY:Hid (∀w',MpK prog 86 3 .i64 okA klA w' mb (if(flM s.fl (id,b)).isSome then c else c+1) (bu (flM s.fl) (id,b) (some (k:Int)))->Fr (λi=>i=mb) w w'->
   (∃c',c'<=c+1/\(¬s.fl (id,b)=0->c'=c)/\DC w' db {s with fl:=bu s.fl (id,b) k} c' pv fv mb fh nf)/\Fr (λi=>i=mb) w w'):=by
  intro w' hm f;refine⟨⟨_,?_,λhn=>?_,h.fails (c':=if(flM s.fl (id,b)).isSome then c else c+1) (by rw[uR,show(if k=0 then none else some (k:Int))=some (k:Int)from if_neg (by omega)];exact hm) f ?_ (λa=>by unfold bu;split;exact hkl;exact h.fb a)⟩,f⟩
  rotate_left 2
  .split
   .exact h.ct
   .rename_i q;exact hc (by unfold flM at q;split at q;assumption;exact(q rfl).elim)
  .split<;>omega
  .rw[if_pos];unfold flM;rw[if_neg hn];rfl
 have hct:=h.ct;have h1:=hin.1;have h2:=hin.2;have hr:=h.r1;have HKL:=Hd hkl;clear h hu hin hkl;go_enter func46,ntmps46
 go_wp2_with(at_mapUpdate;go_must(refine BQ MKA HM.out hct rfl _ _ _ rfl (by rfl) (x:=(id,b)) (by rfl) (by rfl) HOK.out HWF.out ?_);intro w1 hm1 f1;have K:=Hd (KEY.out w1 hm1 f1);clear hm1 f1)
 go_returns;exact⟨rfl,K.out⟩
theorem oZ(h:DC w db s c pv fv mb fh nf){id:Nat}(hu:aN id)(b:Bool){t:Int}(ht:t<1)(hin:1<=id/\id<=s.room):Calls prog 46 #[.pointer (some ⟨db,0,none⟩),.int .u32 id,.bool b,.int .i64 t] w λe w'=>e=.returned (.tuple #[])/\
  (∃c',c'<=c/\DC w' db {s with fl:=bu s.fl (id,b) 0} c' pv fv mb fh nf)/\Fr (λi=>i=mb) w w':=by
 have c0:w.cell? ⟨db,0,none⟩=some (.int .i64 s.room):=h.ce 0 (by omega);have c3:w.cell? ⟨db,3,none⟩=some (.map (some mb)):=h.ce 3 (by omega);have hcv:IntKind.i64.wrap (id:Int)=(id:Int):=IntWalk.i64_in _ (by unfold aN at hu;omega);have HM:=Hd h.mp;have HOK:Hid (okA (id,b)):=hu
 have KEY:Hid (∀w',MpK prog 86 3 .i64 okA klA w' mb (if(flM s.fl (id,b)).isSome then c-1 else c) (bu (flM s.fl) (id,b) none)->Fr (λi=>i=mb) w w'->
   (∃c',c'<=c/\DC w' db {s with fl:=bu s.fl (id,b) 0} c' pv fv mb fh nf)/\Fr (λi=>i=mb) w w'):=by
  intro w' hm f;have:=h.ct;exact⟨⟨_,by split<;>omega,h.fails (c':=if(flM s.fl (id,b)).isSome then c-1 else c) (by rw[uR,if_pos rfl];exact hm) f (by split<;>omega) (λa=>by unfold bu;split;unfold bg;omega;exact h.fb a)⟩,f⟩
 have h1:=hin.1;have h2:=hin.2;have hr:=h.r1;clear h hu hin;go_enter func46,ntmps46
 go_wp2_with(at_delete;go_must(refine Du MKA HM.out rfl _ _ rfl (by rfl) (x:=(id,b)) (by rfl) HOK.out ?_);intro w1 hm1 f1;have K:=Hd (KEY.out w1 hm1 f1);clear hm1 f1)
 go_returns;exact⟨rfl,K.out⟩
end
def DS.att(s:DS)(id:Nat)(b:Bool):Nat×DS:=
 if s.has id then
  if s.stops/\s.left=0 then(7,s)
  else if¬s.fl (id,b)=0 then(7,{s with fl:=bu s.fl (id,b) (s.fl (id,b)-1)})
  else(0,if s.stops then{s with left:=s.left-1}else s)
 else(3,s)
section
variable{w w':World}{db c mb nf:Nat}{s:DS}{pv fv:Value}{fh:Nat->Nat}{F:Nat->Prop}
theorem DB(h:DC w db s c pv fv mb fh nf)(t:Int)(ht:bg t.toNat):Calls prog 20 #[.pointer (some ⟨db,0,none⟩),.int .i64 t] w λe w'=>e=.returned (.tuple #[])/\DC w' db {s with stops:=true,left:=t.toNat} c pv fv mb fh nf/\Fr (λk=>k=db) w w':=by
 have f4:=h.hd.frozen 4;have f5:=h.hd.frozen 5;have c4:w.cell? ⟨db,4,none⟩=some (.bool s.stops):=h.ce 4 (by omega);have c5:w.cell? ⟨db,5,none⟩=some (.int .i64 s.left):=h.ce 5 (by omega);have lb:=h.hd.lt
 have K:Hid (∀z:Int,z=(t.toNat:Int)->DC ((w.setCell ⟨db,4,none⟩ (.bool true)).setCell ⟨db,5,none⟩ (.int .i64 z)) db {s with stops:=true,left:=t.toNat} c pv fv mb fh nf/\Fr (λk=>k=db) w ((w.setCell ⟨db,4,none⟩ (.bool true)).setCell ⟨db,5,none⟩ (.int .i64 z))):=by
  rintro z rfl;obtain⟨h1,f1⟩:=h.head 4 (.bool true) (GZ s pv fv mb true) rfl rfl rfl rfl h.lr;obtain⟨h2,f2⟩:=h1.head 5 (.int .i64 (t.toNat:Int)) (Gi _ pv fv mb t.toNat) rfl rfl rfl rfl ⟨ht,h.lr.2⟩;exact⟨h2,f1.trans f2 (λi q=>.inl q)⟩
 generalize s.stops=z1 at c4;generalize s.left=z2 at c5;clear h;by_cases h0:0<=t
 .go_enter func20,ntmps20
  go_wp2;go_returns;exact⟨rfl,K.out _ (by omega)⟩
 .have hm:max t 0=0:=by omega
  go_enter func20,ntmps20;go_wp2;go_returns;exact⟨rfl,K.out _ (by omega)⟩
theorem kC(h:DC w db s c pv fv mb fh nf){id:Nat}(hu:aN id)(b:Bool):Calls prog 25 #[.pointer (some ⟨db,0,none⟩),.agg #[.int .u32 id,.bool b]] w λe w'=>e=.returned (.int .i64 (s.att id b).1)/\
  (∃c',c'<=c/\DC w' db (s.att id b).2 c' pv fv mb fh nf)/\Fr (λi=>i=db\/i=mb) w w':=by
 have c4:w.cell? ⟨db,4,none⟩=some (.bool s.stops):=h.ce 4 (by omega);have c5:w.cell? ⟨db,5,none⟩=some (.int .i64 s.left):=h.ce 5 (by omega);have c3:w.cell? ⟨db,3,none⟩=some (.map (some mb)):=h.ce 3 (by omega);have lb:=h.hd.lt;have f5:=h.hd.frozen 5;have hlr:=h.lr.1;have HA:Hid (∀W,Fr NoF w W->Calls prog 45 #[.pointer (some ⟨db,0,none⟩),.int .u32 id] W λe w'=>e=.returned (.bool (s.has id))/\W=w'):=λW f=>sZ (h.fr0 f) hu
 have fA:Fr NoF w (w.alloc (.cells #[.int .u32 id,.bool b] 86)):=(Fr.refl _ _).alloc _
 cases hh:s.has id with
 |false=>
  have HE:Hid (s.att id b=(3,s)):=by unfold Hid DS.att;rw[hh];rfl
  rw[HE.out];have HA1:=HA.out _ fA;rw[hh]at HA1;have H1:=Hd HA1;have HH:=Hd h;clear HA HA1 h hh hu;go_enter func25,ntmps25
  go_wp2_with fail
  refine H1.out.mono ?_;rintro e w'⟨rfl,rfl⟩;go_wp2;go_returns;exact⟨rfl,⟨c,Nat.le_refl _,HH.out.fr0 ((Fr.refl _ _).alloc _)⟩,(Fr.refl _ _).alloc _⟩
 |true=>
  have HA1:=HA.out _ fA;rw[hh]at HA1;have H1:=Hd HA1
  have hir:1<=id/\id<=s.room:=by
   have hr2:=h.r2;unfold DS.has at hh;simp at hh;omega
  by_cases hst:s.stops=true/\s.left=0
  .have HE:Hid (s.att id b=(7,s)):=by unfold Hid DS.att;rw[hh];simp[hst.1,hst.2]
   rw[HE.out];rw[hst.1]at c4;rw[hst.2]at c5;have HH:=Hd h;clear HA HA1 h hh hu hst;go_enter func25,ntmps25
   go_wp2_with fail
   refine H1.out.mono ?_;rintro e w'⟨rfl,rfl⟩;go_wp2;go_returns;exact⟨rfl,⟨c,Nat.le_refl _,HH.out.fr0 ((Fr.refl _ _).alloc _)⟩,(Fr.refl _ _).alloc _⟩
  .have HH:=Hd h
   have hfb:=h.fb (id,b)
   have HL:∀d,(Instr.lookup 68 (.map (some mb)) (.agg #[.int .u32 id,.bool b]) false).run prog ((w.alloc (.cells #[.int .u32 id,.bool b] 86)).drewN d)=.ok (.int .i64 (s.fl (id,b):Nat)) ((w.alloc (.cells #[.int .u32 id,.bool b] 86)).drewN d):=by
    intro d;have:=(((h.fr0 fA).fr0 ((Fr.refl NoF _).drewN d)).mp).look_run MKA (x:=(id,b)) hu
    have e:((flM s.fl (id,b)).getD 0)=((s.fl (id,b):Nat):Int):=by
     unfold flM;split
     .rename_i q;rw[q];rfl
     .rfl
    rw[e]at this;exact this
   have HF:Hid (∀d,∀z:Int,1<=s.fl (id,b)->z=(s.fl (id,b):Int)-1->Calls prog 46 #[.pointer (some ⟨db,0,none⟩),.int .u32 id,.bool b,.int .i64 z] ((w.alloc (.cells #[.int .u32 id,.bool b] 86)).drewN d) λe w'=>e=.returned (.tuple #[])/\(∃c',c'<=c/\DC w' db {s with fl:=bu s.fl (id,b) (s.fl (id,b)-1)} c' pv fv mb fh nf)/\Fr (λi=>i=db\/i=mb) w w'):=by
    intro d z hv hz;have fD:Fr NoF w ((w.alloc (.cells #[.int .u32 id,.bool b] 86)).drewN d):=fA.drewN d;have hct:=h.ct;by_cases h1:s.fl (id,b)=1
    .have e0:s.fl (id,b)-1=0:=by omega
     rw[e0];exact(oZ (h.fr0 fD) hu b (by omega) hir).mono λe w' ⟨he,q1,q4⟩=>⟨he,q1,(fD.mono (λ_ q=>q.elim)).trans q4 (λi q=>.inl (.inr q))⟩
    .have hz2:z=((s.fl (id,b)-1:Nat):Int):=by omega
     rw[hz2];exact(nW (h.fr0 fD) hu b (k:=s.fl (id,b)-1) (by omega) (by unfold bg at*;omega) hir (λq=>by omega)).mono λe w' ⟨he,⟨c',q1,q2,q3⟩,q4⟩=>⟨he,⟨c',Nat.le_of_eq (q2 (by omega)),q3⟩,(fD.mono (λ_ q=>q.elim)).trans q4 (λi q=>.inl (.inr q))⟩
   have HE:Hid (s.att id b=if¬s.fl (id,b)=0 then(7,{s with fl:=bu s.fl (id,b) (s.fl (id,b)-1)})else(0,if s.stops then{s with left:=s.left-1}else s)):=by
    unfold Hid DS.att;rw[hh,if_pos rfl,if_neg hst]
   have HW:Hid (∀d,∀z:Int,1<=s.left->z=(s.left:Int)-1->DC (((w.alloc (.cells #[.int .u32 id,.bool b] 86)).drewN d).setCell ⟨db,5,none⟩ (.int .i64 z)) db {s with left:=s.left-1} c pv fv mb fh nf/\Fr (λi=>i=db\/i=mb) w (((w.alloc (.cells #[.int .u32 id,.bool b] 86)).drewN d).setCell ⟨db,5,none⟩ (.int .i64 z))):=by
    intro d z q1 q2;obtain rfl:z=((s.left-1:Nat):Int):=by omega
    have fD:Fr NoF w ((w.alloc (.cells #[.int .u32 id,.bool b] 86)).drewN d):=fA.drewN d;obtain⟨h1,f1⟩:=(h.fr0 fD).head 5 (.int .i64 (s.left-1:Nat)) (Gi _ pv fv mb (s.left-1)) rfl rfl rfl rfl ⟨by have:=h.lr.1;show bg (s.left-1);unfold bg at*;omega,h.lr.2⟩;exact⟨h1,(fD.mono (λ_ q=>q.elim)).trans f1 (λi q=>.inl (.inl q))⟩
   clear HA HA1 h hh hu
   cases hs1:s.stops with
   |false=>
    have HST:=Hd hs1;rw[hs1]at c4;clear hst HW hlr;obtain hv|hv:s.fl (id,b)=0\/1<=s.fl (id,b):=by omega
    .have HE2:Hid (s.att id b=(0,s)):=by unfold Hid;rw[HE.out,if_neg (by omega),hs1,if_neg (by simp)]
     rw[HE2.out];rw[hv]at HL;clear hv hfb HE HE2 HF;go_enter func25,ntmps25
     go_wp2_with fail
     refine H1.out.mono ?_;rintro e w'⟨rfl,rfl⟩;go_wp2
     go_quiet (fail)
     go_wp2;go_returns;exact⟨rfl,⟨c,Nat.le_refl _,(HH.out.fr0 fA).fr0 ((Fr.refl _ _).drewN _)⟩,(fA.mono (λ_ q=>q.elim)).drewN _⟩
    .have HV:=Hd hv
     have HFV:=Hd λd z=>HF.out d z hv
     have HE2:Hid (s.att id b=(7,{s with fl:=bu s.fl (id,b) (s.fl (id,b)-1)})):=by unfold Hid;rw[HE.out,if_pos (by omega)]
     rw[HE2.out];clear HE HE2 HF HV;generalize hq:s.fl (id,b)=v at HL hv hfb HFV⊢;have hv1:1<=(v:Int):=by omega
     have hvw:IntKind.i64.wrap ((v:Int)-1)=(v:Int)-1:=IntWalk.i64_in _ (by unfold bg at hfb;omega);clear hv hfb hq;go_enter func25,ntmps25
     go_wp2_with fail
     refine H1.out.mono ?_;rintro e w'⟨rfl,rfl⟩;go_wp2
     go_quiet (fail)
     go_wp2_with fail
     refine(HFV.out _ _ (by first|rfl|omega)).mono ?_;rintro e w2⟨rfl,h2⟩;have H2:=Hd h2;clear h2;go_wp2;go_returns;exact⟨rfl,H2.out⟩
   |true=>
    have HST:=Hd hs1;have hl0:¬s.left=0:=λq=>hst ⟨hs1,q⟩
    rw[hs1]at c4;have hlb:((s.left:Int)==0)=false:=by simp;omega
    have hl1:1<=(s.left:Int):=by omega
    have hlw:IntKind.i64.wrap ((s.left:Int)-1)=(s.left:Int)-1:=IntWalk.i64_in _ (by unfold bg at hlr;omega);clear hlr;clear hst;obtain hv|hv:s.fl (id,b)=0\/1<=s.fl (id,b):=by omega
    .have HE2:Hid (s.att id b=(0,{s with left:=s.left-1})):=by unfold Hid;rw[HE.out,if_neg (by omega),hs1,if_pos rfl]
     rw[HE2.out];have HWL:=Hd λd z=>HW.out d z (by omega)
     have HLE:=Hd (rfl:s.left-1=s.left-1);rw[hv]at HL;clear hv hfb HE HE2 HF HW;go_enter func25,ntmps25
     go_wp2_with fail
     refine H1.out.mono ?_;rintro e w'⟨rfl,rfl⟩;go_wp2
     go_quiet (fail)
     go_wp2;go_returns;refine⟨rfl,⟨c,Nat.le_refl _,?_⟩,?_⟩
     .exact(HWL.out _ _ (by first|rfl|omega)).1
     .exact(HWL.out _ _ (by first|rfl|omega)).2
    .have HV:=Hd hv
     clear HW;have HFV:=Hd λd z=>HF.out d z hv
     have HE2:Hid (s.att id b=(7,{s with fl:=bu s.fl (id,b) (s.fl (id,b)-1)})):=by unfold Hid;rw[HE.out,if_pos (by omega)]
     rw[HE2.out];clear HE HE2 HF HV;generalize hq:s.fl (id,b)=v at HL hv hfb HFV⊢;have hv1:1<=(v:Int):=by omega
     have hvw:IntKind.i64.wrap ((v:Int)-1)=(v:Int)-1:=IntWalk.i64_in _ (by unfold bg at hfb;omega);clear hv hfb hq;go_enter func25,ntmps25
     go_wp2_with fail
     refine H1.out.mono ?_;rintro e w'⟨rfl,rfl⟩;go_wp2
     go_quiet (fail)
     go_wp2_with fail
     refine(HFV.out _ _ (by first|rfl|omega)).mono ?_;rintro e w2⟨rfl,h2⟩;have H2:=Hd h2;clear h2;go_wp2;go_returns;exact⟨rfl,H2.out⟩
end
end
end Go.Proofs.YtoenclhimbpfeaaGreatDoor
