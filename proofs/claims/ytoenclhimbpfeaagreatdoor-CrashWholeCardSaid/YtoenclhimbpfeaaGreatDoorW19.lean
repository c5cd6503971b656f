/- Part 19. -/
import Derived.Test.YtoenclhimbpfeaaGreatDoorW13
import Derived.Deep.RegionHeld3
import Derived.StillTailTactics
import Derived.Deep.Cut
namespace Go.Proofs.YtoenclhimbpfeaaGreatDoor
set_option linter.all false
set_option maxHeartbeats 16000000
set_option maxRecDepth 100000
section
open Go.RowKit
structure En where
 pg:Nat
 fr:Int
 hot:Bool
 ref:Bool
 test:Bool
structure PrS where
 L:List En
 hd:Nat->Nat
 goal:Nat
 pg:Nat->Nat
 on:Nat->Bool
def cK(i m h:Nat):Nat:=if m<=(if i<h then h-1 else h)then 0 else(if i<h then h-1 else h)
def PrS.drop(s:PrS)(i:Nat):PrS:={s with L:=s.L.eraseIdx i,hd:=λj=>cK i (s.L.length-1) (s.hd j)}
def jv(l:List En)(i:Nat)(x:En):List En:=l.take i++x::l.drop i
def PrS.lay(s:PrS)(x:En):PrS:=
 if s.L=[]then{s with L:=[x],hd:=λ_=>0}
 else{s with L:=jv s.L (s.hd 0) x,hd:=λj=>if s.hd 0<=s.hd j then s.hd j+1 else s.hd j}
def PrS.less(s:PrS):PrS:={s with goal:=max (s.goal-1) 1}
def PrS.put(s:PrS)(i:Nat)(x:En):PrS:={s with L:=s.L.set i x}
def PrS.mv(s:PrS)(j:Nat):PrS:={s with hd:=upd s.hd j ((s.hd j+1)%s.L.length)}
def PrS.hotN(s:PrS):Nat:=s.L.countP (λe=>e.hot)
def PrS.gone(s:PrS):Nat:=s.L.countP (λe=>decide (e.fr<0))
def PrS.gh(s:PrS):List Nat:=(s.L.filter (λe=>decide (e.fr<0))).map (λe=>e.pg)
def PrS.ends(s:PrS)(i:Nat)(x:En):PrS:=if x.fr<0 then s.less.drop i else s.less.put i {x with test:=false}
def aF(s:PrS)(x:En):PrS×Bool:=
 if x.hot then(if x.ref then((s.put (s.hd 0) {x with ref:=false}).mv 0,false)else((s.put (s.hd 0) {x with hot:=false}).mv 0,true))
 else if x.test then(if x.fr<0 then(s.ends (s.hd 0) x,false)else((s.ends (s.hd 0) x).mv 0,false))
 else(s.mv 0,false)
def cz:Nat->PrS->Option PrS
 |0,_=>none
 |k+1,s=>if s.hotN=0 then some s else match s.L[s.hd 0]? with
  |none=>none
  |some x=>if(aF s x).2=true then some (aF s x).1 else cz k (aF s x).1
open Classical in
noncomputable def PrS.work(s:PrS):PrS:=if h:∃p:Nat×PrS,cz p.1 s=some p.2 then h.choose.2 else s
noncomputable def coolO(n:Nat):Nat->PrS->Option PrS
 |0,_=>none
 |k+1,s=>if s.hotN<=n-s.goal then some s else coolO n k s.work
noncomputable def PrS.cool(n:Nat)(s:PrS):PrS:=(coolO n (s.hotN+1) s).getD s
def bf(s:PrS)(x:En):PrS:=
 if x.test then(if x.fr<0 then s.ends (s.hd 2) x else(s.ends (s.hd 2) x).mv 2)else s.mv 2
def br(n:Nat):Nat->PrS->Option PrS
 |0,_=>none
 |k+1,s=>if s.gone<=n then some s else match s.L[s.hd 2]? with
  |none=>none
  |some x=>br n k (bf s x)
open Classical in
noncomputable def PrS.tests(n:Nat)(s:PrS):PrS:=if h:∃p:Nat×PrS,br n p.1 s=some p.2 then h.choose.2 else s
noncomputable def PrS.turn(n:Nat)(s:PrS)(i:Nat)(x:En):PrS:=(((s.mv 1).drop i).lay {x with ref:=false,hot:=x.test,test:=!x.test}).cool n
def PrS.empty(s:PrS)(f:Nat):PrS:={s with pg:=upd s.pg f 0,on:=upd s.on f false}
noncomputable def PrS.send(n:Nat)(s:PrS)(i:Nat)(x:En):PrS:=
 if x.test then(((s.mv 1).empty x.fr.toNat).put i {x with fr:= -1}).tests n else((s.mv 1).empty x.fr.toNat).drop i
def PrS.idle(s:PrS)(x:En):Bool:=x.hot||decide (x.fr<0)||(!x.ref&&!s.on x.fr.toNat)
noncomputable def vicL(n:Nat):Nat->PrS->PrS×Option Nat
 |0,s=>(s,none)
 |k+1,s=>match s.L[s.hd 1]? with
  |none=>(s,none)
  |some x=>
   if s.idle x=true then vicL n k (s.mv 1)
   else if x.ref=true then vicL n k (s.turn n (s.hd 1) x)
   else(s.send n (s.hd 1) x,some x.fr.toNat)
def PrS.ofF(s:PrS)(f:Nat):Option Nat:=s.L.findIdx? (λe=>decide (e.fr=(f:Int)))
def PrS.ofG(s:PrS)(p:Nat):Option Nat:=s.L.findIdx? (λe=>decide (e.fr= -1/\e.pg=p))
def PrS.mayGo(s:PrS)(e:En):Bool:=decide (0<=e.fr)&&s.on e.fr.toNat
def PrS.first(s:PrS):Nat:=match(s.L.drop (s.hd 1)++s.L.take (s.hd 1)).find? s.mayGo with
 |some e=>e.fr.toNat
 |none=>0
def PrS.rem(s:PrS)(f:Nat):PrS:=match s.ofF f with
 |some i=>(s.empty f).drop i
 |none=>s.empty f
noncomputable def PrS.access(n:Nat)(s:PrS)(a id:Nat):PrS:=
 match s.ofF a with
 |some i=>match s.L[i]? with
  |some x=>{s with pg:=upd s.pg a id}.put i {x with ref:=true}
  |none=>s
 |none=>match s.ofG id with
  |none=>{s with pg:=upd s.pg a id}.lay ⟨id,a,false,false,true⟩
  |some i=>(({s with pg:=upd s.pg a id,goal:=min (s.goal+1) (max (n-1) 1)}.drop i).lay ⟨id,a,true,false,false⟩).cool n
def PrS.sizeN(n:Nat)(s:PrS):Nat:=(List.range n).countP (λf=>decide (¬s.pg f=0)&&s.on f)
noncomputable def PrS.vic(n:Nat)(s:PrS):PrS×Option Nat:=vicL n (4*s.L.length+4) s
noncomputable def polP(n:Nat):Pol PrS where
 miss s _:=s
 access s a id:=s.access n a id
 set s a v:={s with on:=upd s.on a v}
 victim s _:=if s.sizeN n=0 then none else match s.vic n with
  |(_,some f)=>some f
  |(t,none)=>some t.first
 gone s _:=match s.vic n with
  |(t,some _)=>t
  |(t,none)=>t.rem t.first
 remove s a:=s.rem a
 size s:=s.sizeN n
 ghosts s:=s.gh
def PrS.ghR(s:PrS):List Nat:=((s.L.drop (s.hd 0)++s.L.take (s.hd 0)).filter (λe=>decide (e.fr<0))).map (λe=>e.pg)
noncomputable def yh(n:Nat):Pol PrS:={polP n with ghosts:=PrS.ghR}
theorem cm{p:En->Bool}{l:List En}{i:Nat}{x y:En}(h:l[i]?=some x):(l.set i y).countP p+(if p x=true then 1 else 0)=l.countP p+(if p y=true then 1 else 0):=by
 induction l generalizing i with
 |nil=>simp at h
 |cons a l ih=>
  cases i with
  |zero=>simp at h;subst h;simp only[List.set_cons_zero,List.countP_cons];omega
  |succ i=>
   have:=ih (i:=i) (by simpa using h);simp only[List.set_cons_succ,List.countP_cons];omega
theorem bW{p:En->Bool}{l:List En}{i:Nat}{x:En}(h:l[i]?=some x):(l.eraseIdx i).countP p+(if p x=true then 1 else 0)=l.countP p:=by
 induction l generalizing i with
 |nil=>simp at h
 |cons a l ih=>
  cases i with
  |zero=>simp at h;subst h;simp only[List.eraseIdx_cons_zero,List.countP_cons]
  |succ i=>
   have:=ih (i:=i) (by simpa using h);simp only[List.eraseIdx_cons_succ,List.countP_cons];omega
theorem gV{p:En->Bool}(l:List En)(i:Nat)(x:En):(jv l i x).countP p=l.countP p+(if p x=true then 1 else 0):=by
 unfold jv;have e:l.countP p=(l.take i).countP p+(l.drop i).countP p:=by rw[<-List.countP_append,List.take_append_drop]
 rw[List.countP_append,List.countP_cons,e];omega
theorem Dq(l:List En){i:Nat}(hi:i<=l.length)(x:En)(j:Nat):(jv l i x)[j]?=if j<i then l[j]? else if j=i then some x else l[j-1]?:=by
 unfold jv;have hl:(l.take i).length=i:=by rw[List.length_take];omega
 by_cases h:j<i
 .rw[if_pos h,List.getElem?_append_left (by omega),List.getElem?_take,if_pos h]
 .rw[if_neg h,List.getElem?_append_right (by omega),hl]
  by_cases e:j=i
  .subst e;simp
  .rw[if_neg e,show j-i=(j-i-1)+1 from by omega,List.getElem?_cons_succ,List.getElem?_drop]
   congr 1;omega
theorem vh{l:List En}{i:Nat}{x y:En}:y∈jv l i x↔y=x\/y∈l:=by
 unfold jv;rw[List.mem_append,List.mem_cons];constructor
 .rintro(h|h|h)
  .exact .inr (List.mem_of_mem_take h)
  .exact .inl h
  .exact .inr (List.mem_of_mem_drop h)
 .rintro(h|h)
  .exact .inr (.inl h)
  .rw[<-List.take_append_drop i l,List.mem_append]at h
   exact h.elim .inl (λh=>.inr (.inr h))
theorem Db(l:List En)(i:Nat)(x:En):(jv l i x).length=l.length+1:=by
 unfold jv;rw[List.length_append,List.length_cons,List.length_take,List.length_drop];omega
theorem set_mem{l:List En}{i:Nat}{x y:En}(h:y∈l.set i x):y=x\/y∈l:=(List.mem_or_eq_of_mem_set h).symm
theorem bc(l:List En)(i j:Nat):(l.eraseIdx i)[j]?=if j<i then l[j]? else l[j+1]?:=List.getElem?_eraseIdx
end
section
open Go.Maps Go.Proofs.Tryz Go.RowKit
structure AP where
 rb:Nat
 eb:Nat
 fb:Nat
 mb:Nat
 FR:Nat->Prop
 lab:Nat->Nat
structure LP(b:Nat)(A:AP):Prop where
 l0:A.lab b=0
 l1:A.lab A.eb=1
 l2:A.lab A.fb=2
 l3:A.lab A.mb=3
 l4:∀i,A.FR i->A.lab i=4
structure Raw where
 ids:List Nat
 sp:List Nat
 h:Nat->Nat
 e:Nat->En
 v:Nat->Bool
 goal:Nat
 hot:Nat
 size:Nat
 fm:Nat->Int
 mp:Int->Option Nat
 mc:Nat
def prH(A:AP)(n:Nat)(h:Nat->Nat)(goal hot size:Nat):Nat->Value
 |0=>.pointer (some ⟨A.rb,0,none⟩)
 |1=>.slice (some ⟨A.eb,0,none⟩) (2*n) (2*n)
 |2=>.int .i64 (h 0:Nat)
 |3=>.int .i64 (h 1:Nat)
 |4=>.int .i64 (h 2:Nat)
 |5=>.slice (some ⟨A.fb,0,none⟩) n n
 |6=>.map (some A.mb)
 |7=>.int .i64 goal
 |8=>.int .i64 hot
 |9=>.int .i64 size
 |_=>.int .i64 0
def enF(e:Nat->En)(v:Nat->Bool)(i:Nat):Value:=
 if i%6=0 then .int .u32 ((e (i/6)).pg:Nat)else if i%6=1 then .int .i64 (e (i/6)).fr else if i%6=2 then .bool (e (i/6)).hot
 else if i%6=3 then .bool (e (i/6)).ref else if i%6=4 then .bool (e (i/6)).test else .bool (v (i/6))
def fmF(fm:Nat->Int)(i:Nat):Value:=.int .i64 (fm i)
def mpF(m:Int->Option Nat)(z:Int):Option Value:=(m z).map λ(x:Nat)=>Value.int .i64 x
def updP(m:Int->Option Nat)(x:Int)(y:Option Nat):Int->Option Nat:=λz=>if z=x then y else m z
theorem t8(m:Int->Option Nat)(x:Int)(y:Option Nat):dJ (mpF m) x (y.map λ(x:Nat)=>Value.int .i64 x)=mpF (updP m x y):=by
 funext z
 unfold dJ mpF updP
 split<;>rfl
theorem MVg:MV prog 111 34 3 .u32 (.int .i64 0):=⟨underlying111,underlying34,λw=>by kernel_rfl⟩
structure PC(w:World)(b n:Nat)(A:AP)(r:Raw):Prop where
 hd:Blk w b 10 (prH A n r.h r.goal r.hot r.size)
 rr:RR w A.rb (2*n) 2 [r.ids,r.sp] A.FR
 en:Blk w A.eb (2*n*6) (enF r.e r.v)
 fb:Blk w A.fb n (fmF r.fm)
 mp:MpV prog 34 .u32 (.int .i64 0) w A.mb r.mc (mpF r.mp)
 lb:LP b A
 hn:n<=65535
def FPr(A:AP)(b:Nat):Nat->Prop:=λi=>i=b\/i=A.eb\/i=A.fb\/i=A.mb\/A.FR i
def FCk(A:AP)(b:Nat):Nat->Prop:=λi=>i=b\/A.FR i
theorem en0(e:Nat->En)(v:Nat->Bool)(i:Nat):enF e v (i*6)=.int .u32 ((e i).pg:Nat):=by
 have h1:i*6%6=0:=by omega
 have h2:i*6/6=i:=by omega
 simp[enF,h1,h2]
theorem en1(e:Nat->En)(v:Nat->Bool)(i:Nat):enF e v (i*6+1)=.int .i64 (e i).fr:=by
 have h1:(i*6+1)%6=1:=by omega
 have h2:(i*6+1)/6=i:=by omega
 simp[enF,h1,h2]
theorem en2(e:Nat->En)(v:Nat->Bool)(i:Nat):enF e v (i*6+2)=.bool (e i).hot:=by
 have h1:(i*6+2)%6=2:=by omega
 have h2:(i*6+2)/6=i:=by omega
 simp[enF,h1,h2]
theorem en3(e:Nat->En)(v:Nat->Bool)(i:Nat):enF e v (i*6+3)=.bool (e i).ref:=by
 have h1:(i*6+3)%6=3:=by omega
 have h2:(i*6+3)/6=i:=by omega
 simp[enF,h1,h2]
theorem en4(e:Nat->En)(v:Nat->Bool)(i:Nat):enF e v (i*6+4)=.bool (e i).test:=by
 have h1:(i*6+4)%6=4:=by omega
 have h2:(i*6+4)/6=i:=by omega
 simp[enF,h1,h2]
theorem en5(e:Nat->En)(v:Nat->Bool)(i:Nat):enF e v (i*6+5)=.bool (v i):=by
 have h1:(i*6+5)%6=5:=by omega
 have h2:(i*6+5)/6=i:=by omega
 simp[enF,h1,h2]
theorem kH{e e':Nat->En}{v v':Nat->Bool}{i k:Nat}{u:Value}(hk:k<6)(ho:∀j,¬j=i->e' j=e j/\v' j=v j)(hs:∀j,j<6->¬j=k->enF e' v' (i*6+j)=enF e v (i*6+j))(hu:enF e' v' (i*6+k)=u):upd (enF e v) (i*6+k) u=enF e' v':=by
 funext j
 by_cases e1:j=i*6+k
 .subst e1;rw[upd_same,hu]
 .rw[aa _ _ e1]
  by_cases e2:j/6=i
  .have:j=i*6+j%6:=by omega
   rw[this];exact(hs (j%6) (by omega) (by omega)).symm
  .obtain⟨q1,q2⟩:=ho (j/6) e2
   unfold enF;rw[q1,q2]
theorem Gr(e:Nat->En)(v:Nat->Bool)(i:Nat)(z:Int):upd (enF e v) (i*6+1) (.int .i64 z)=enF (upd e i {e i with fr:=z}) v:=
 kH (by omega) (λj q=>⟨aa _ _ q,rfl⟩) (λj h1 h2=>by
  match j,h1,h2 with
  |0,_,_=>rw[Nat.add_zero,en0,en0,upd_same]
  |2,_,_=>rw[en2,en2,upd_same]
  |3,_,_=>rw[en3,en3,upd_same]
  |4,_,_=>rw[en4,en4,upd_same]
  |5,_,_=>rw[en5,en5]) (by rw[en1,upd_same])
theorem yy(e:Nat->En)(v:Nat->Bool)(i:Nat)(z:Bool):upd (enF e v) (i*6+2) (.bool z)=enF (upd e i {e i with hot:=z}) v:=
 kH (by omega) (λj q=>⟨aa _ _ q,rfl⟩) (λj h1 h2=>by
  match j,h1,h2 with
  |0,_,_=>rw[Nat.add_zero,en0,en0,upd_same]
  |1,_,_=>rw[en1,en1,upd_same]
  |3,_,_=>rw[en3,en3,upd_same]
  |4,_,_=>rw[en4,en4,upd_same]
  |5,_,_=>rw[en5,en5]) (by rw[en2,upd_same])
theorem sL(e:Nat->En)(v:Nat->Bool)(i:Nat)(z:Bool):upd (enF e v) (i*6+3) (.bool z)=enF (upd e i {e i with ref:=z}) v:=
 kH (by omega) (λj q=>⟨aa _ _ q,rfl⟩) (λj h1 h2=>by
  match j,h1,h2 with
  |0,_,_=>rw[Nat.add_zero,en0,en0,upd_same]
  |1,_,_=>rw[en1,en1,upd_same]
  |2,_,_=>rw[en2,en2,upd_same]
  |4,_,_=>rw[en4,en4,upd_same]
  |5,_,_=>rw[en5,en5]) (by rw[en3,upd_same])
theorem vD(e:Nat->En)(v:Nat->Bool)(i:Nat)(z:Bool):upd (enF e v) (i*6+4) (.bool z)=enF (upd e i {e i with test:=z}) v:=
 kH (by omega) (λj q=>⟨aa _ _ q,rfl⟩) (λj h1 h2=>by
  match j,h1,h2 with
  |0,_,_=>rw[Nat.add_zero,en0,en0,upd_same]
  |1,_,_=>rw[en1,en1,upd_same]
  |2,_,_=>rw[en2,en2,upd_same]
  |3,_,_=>rw[en3,en3,upd_same]
  |5,_,_=>rw[en5,en5]) (by rw[en4,upd_same])
theorem GO(e:Nat->En)(v:Nat->Bool)(i:Nat)(z:Bool):upd (enF e v) (i*6+5) (.bool z)=enF e (upd v i z):=
 kH (by omega) (λj q=>⟨rfl,aa _ _ q⟩) (λj h1 h2=>by
  match j,h1,h2 with
  |0,_,_=>rw[Nat.add_zero,en0,en0]
  |1,_,_=>rw[en1,en1]
  |2,_,_=>rw[en2,en2]
  |3,_,_=>rw[en3,en3]
  |4,_,_=>rw[en4,en4]
  |j+5,h1,h2=>exfalso;omega) (by rw[en5,upd_same])
theorem EY(fm:Nat->Int)(i:Nat)(z:Int):upd (fmF fm) i (.int .i64 z)=fmF (upd fm i z):=by
 funext j
 by_cases q:j=i
 .subst q;rw[upd_same];unfold fmF;rw[upd_same]
 .rw[aa _ _ q];unfold fmF;rw[aa _ _ q]
theorem uT{A:AP}{n:Nat}(h:Nat->Nat)(g o s:Nat)(j z:Nat)(hj:j<3):upd (prH A n h g o s) (2+j) (.int .i64 (z:Nat))=prH A n (upd h j z) g o s:=by
 funext i
 match j,hj with
 |0,_=>match i with
  |0=>rfl|1=>rfl|2=>rfl|3=>rfl|4=>rfl|5=>rfl|6=>rfl|7=>rfl|8=>rfl|9=>rfl
  |i+10=>simp[upd,prH]
 |1,_=>match i with
  |0=>rfl|1=>rfl|2=>rfl|3=>rfl|4=>rfl|5=>rfl|6=>rfl|7=>rfl|8=>rfl|9=>rfl
  |i+10=>simp[upd,prH]
 |2,_=>match i with
  |0=>rfl|1=>rfl|2=>rfl|3=>rfl|4=>rfl|5=>rfl|6=>rfl|7=>rfl|8=>rfl|9=>rfl
  |i+10=>simp[upd,prH]
theorem kt{A:AP}{n:Nat}(h:Nat->Nat)(g o s z:Nat):upd (prH A n h g o s) 7 (.int .i64 (z:Nat))=prH A n h z o s:=by
 funext i
 match i with
 |0=>rfl|1=>rfl|2=>rfl|3=>rfl|4=>rfl|5=>rfl|6=>rfl|7=>rfl|8=>rfl|9=>rfl
 |i+10=>simp[upd,prH]
theorem j6{A:AP}{n:Nat}(h:Nat->Nat)(g o s z:Nat):upd (prH A n h g o s) 8 (.int .i64 (z:Nat))=prH A n h g z s:=by
 funext i
 match i with
 |0=>rfl|1=>rfl|2=>rfl|3=>rfl|4=>rfl|5=>rfl|6=>rfl|7=>rfl|8=>rfl|9=>rfl
 |i+10=>simp[upd,prH]
theorem zR{A:AP}{n:Nat}(h:Nat->Nat)(g o s z:Nat):upd (prH A n h g o s) 9 (.int .i64 (z:Nat))=prH A n h g o z:=by
 funext i
 match i with
 |0=>rfl|1=>rfl|2=>rfl|3=>rfl|4=>rfl|5=>rfl|6=>rfl|7=>rfl|8=>rfl|9=>rfl
 |i+10=>simp[upd,prH]
section
variable{w w':World}{b n:Nat}{A:AP}{r:Raw}
theorem LP.ne(h:LP b A):(¬A.eb=b)/\(¬A.fb=b)/\(¬A.mb=b)/\(¬A.eb=A.fb)/\(¬A.eb=A.mb)/\(¬A.fb=A.mb)/\(∀i,A.FR i->¬i=b/\¬i=A.eb/\¬i=A.fb/\¬i=A.mb):=by
 obtain⟨l0,l1,l2,l3,l4⟩:=h;refine⟨λe=>?_,λe=>?_,λe=>?_,λe=>?_,λe=>?_,λe=>?_,λi hi=>⟨λe=>?_,λe=>?_,λe=>?_,λe=>?_⟩⟩
 .rw[e]at l1;omega
 .rw[e]at l2;omega
 .rw[e]at l3;omega
 .rw[e]at l1;omega
 .rw[e]at l1;omega
 .rw[e]at l2;omega
 .have:=l4 i hi;subst e;omega
 .have:=l4 i hi;subst e;omega
 .have:=l4 i hi;subst e;omega
 .have:=l4 i hi;subst e;omega
theorem PC.fr(h:PC w b n A r){G:Nat->Prop}(f:Fr G w w')(hG:∀i,FPr A b i->¬G i):PC w' b n A r:=
 ⟨h.hd.fr f (hG _ (.inl rfl)),h.rr.fr f (λi q=>hG i (.inr (.inr (.inr (.inr q))))),h.en.fr f (hG _ (.inr (.inl rfl))),h.fb.fr f (hG _ (.inr (.inr (.inl rfl)))),h.mp.fr f (hG _ (.inr (.inr (.inr (.inl rfl))))),h.lb,h.hn⟩
theorem PC.fr0(h:PC w b n A r)(f:Fr NoF w w'):PC w' b n A r:=h.fr f (λ_ _ q=>q)
theorem PC.lt(h:PC w b n A r):∀i,FPr A b i->i<w.heap.size:=by
 rintro i(rfl|rfl|rfl|rfl|q)
 .exact h.hd.lt
 .exact h.en.lt
 .exact h.fb.lt
 .exact h.mp.lt
 .exact h.rr.lt i q
theorem PC.c(h:PC w b n A r)(i:Nat)(hi:i<10):w.cell? ⟨b,i,none⟩=some (prH A n r.h r.goal r.hot r.size i):=h.hd.cell hi
theorem PC.ce(h:PC w b n A r){x:Nat}(hx:x<2*n):w.cell? ⟨A.eb,x*6,none⟩=some (.int .u32 ((r.e x).pg:Nat))/\w.cell? ⟨A.eb,x*6+1,none⟩=some (.int .i64 (r.e x).fr)/\w.cell? ⟨A.eb,x*6+2,none⟩=some (.bool (r.e x).hot)/\w.cell? ⟨A.eb,x*6+3,none⟩=some (.bool (r.e x).ref)/\w.cell? ⟨A.eb,x*6+4,none⟩=some (.bool (r.e x).test)/\w.cell? ⟨A.eb,x*6+5,none⟩=some (.bool (r.v x)):=by
 refine⟨?_,?_,?_,?_,?_,?_⟩
 .rw[h.en.cell (by omega),en0]
 .rw[h.en.cell (by omega),en1]
 .rw[h.en.cell (by omega),en2]
 .rw[h.en.cell (by omega),en3]
 .rw[h.en.cell (by omega),en4]
 .rw[h.en.cell (by omega),en5]
theorem PC.cf(h:PC w b n A r){f:Nat}(hf:f<n):w.cell? ⟨A.fb,f,none⟩=some (.int .i64 (r.fm f)):=h.fb.cell hf
theorem PC.lists(h:PC w b n A r):r.ids.Nodup/\r.sp.Nodup/\(∀x∈r.ids,x<2*n)/\(∀x∈r.sp,x<2*n)/\∀x∈r.ids,¬x∈r.sp:=h.rr.row2
theorem PC.setHead(h:PC w b n A r){i:Nat}{u:Value}{r':Raw}(e:upd (prH A n r.h r.goal r.hot r.size) i u=prH A n r'.h r'.goal r'.hot r'.size)(q:r'={r with h:=r'.h,goal:=r'.goal,hot:=r'.hot,size:=r'.size}):PC (w.setCell ⟨b,i,none⟩ u) b n A r':=by
 obtain⟨n1,n2,n3,n4,n5,n6,n7⟩:=h.lb.ne;have f:Fr (λk=>k=b) w (w.setCell ⟨b,i,none⟩ u):=(Fr.refl (λk=>k=b) w).setCell (p:=⟨b,i,none⟩) (.inl rfl) _;rw[q];exact⟨by rw[<-e];exact h.hd.set _ _,h.rr.fr f (λi hi=>(n7 i hi).1),h.en.fr f n1,h.fb.fr f n2,h.mp.fr f n3,h.lb,h.hn⟩
theorem PC.setEn(h:PC w b n A r){i:Nat}{u:Value}{r':Raw}(e:upd (enF r.e r.v) i u=enF r'.e r'.v)(q:r'={r with e:=r'.e,v:=r'.v}):PC (w.setCell ⟨A.eb,i,none⟩ u) b n A r':=by
 obtain⟨n1,n2,n3,n4,n5,n6,n7⟩:=h.lb.ne;have f:Fr (λk=>k=A.eb) w (w.setCell ⟨A.eb,i,none⟩ u):=(Fr.refl (λk=>k=A.eb) w).setCell (p:=⟨A.eb,i,none⟩) (.inl rfl) _;rw[q];exact⟨h.hd.fr f (λq=>n1 q.symm),h.rr.fr f (λi hi=>(n7 i hi).2.1),by rw[<-e];exact h.en.set _ _,h.fb.fr f (λq=>n4 q.symm),h.mp.fr f (λq=>n5 q.symm),h.lb,h.hn⟩
theorem PC.setFm(h:PC w b n A r){i:Nat}(z:Int):PC (w.setCell ⟨A.fb,i,none⟩ (.int .i64 z)) b n A {r with fm:=upd r.fm i z}:=by
 obtain⟨n1,n2,n3,n4,n5,n6,n7⟩:=h.lb.ne;have f:Fr (λk=>k=A.fb) w (w.setCell ⟨A.fb,i,none⟩ (.int .i64 z)):=(Fr.refl (λk=>k=A.fb) w).setCell (p:=⟨A.fb,i,none⟩) (.inl rfl) _;exact⟨h.hd.fr f (λq=>n2 q.symm),h.rr.fr f (λi hi=>(n7 i hi).2.2.1),h.en.fr f n4,by rw[<-EY];exact h.fb.set _ _,h.mp.fr f (λq=>n6 q.symm),h.lb,h.hn⟩
theorem PC.rows(h:PC w b n A r){L M:List Nat}(f:Fr A.FR w w')(hr:RR w' A.rb (2*n) 2 [L,M] A.FR):PC w' b n A {r with ids:=L,sp:=M}:=by
 obtain⟨n1,n2,n3,n4,n5,n6,n7⟩:=h.lb.ne;exact⟨h.hd.fr f (λq=>(n7 _ q).1 rfl),hr,h.en.fr f (λq=>(n7 _ q).2.1 rfl),h.fb.fr f (λq=>(n7 _ q).2.2.1 rfl),h.mp.fr f (λq=>(n7 _ q).2.2.2 rfl),h.lb,h.hn⟩
def nxt(l:List Nat)(x:Nat):Nat:=match l[l.idxOf x+1]? with
 |some y=>y
 |none=>l.head?.getD 0
theorem sn(h:PC w b n A r):Calls prog 250 #[.pointer (some ⟨b,0,none⟩)] w λe w'=>e=.returned (.int .i64 (r.ids.length:Nat))/\w=w':=by
 have c0:w.cell? ⟨b,0,none⟩=some (.pointer (some ⟨A.rb,0,none⟩)):=h.c 0 (by omega);have HL:=dt h.rr 0;rw[show bZ [r.ids,r.sp] 0=r.ids from rfl]at HL;have HL:=Hd HL;clear h;go_enter func250,ntmps250
 go_wp2_with(go_at_call 216;refine HL.out.mono ?_;rintro e w'⟨rfl,rfl⟩)
 go_returns;exact⟨rfl,rfl⟩
theorem Ff{l m:List Nat}{x:Nat}(hx:x∈l):iK [l,m] (x:Int)=l[l.idxOf x+1]?:=by
 unfold iK;rw[dA,jq,if_pos hx];simp
theorem vQ(h:PC w b n A r){x:Nat}(hx:x∈r.ids):Calls prog 261 #[.pointer (some ⟨b,0,none⟩),.int .i64 x] w λe w'=>e=.returned (.int .i64 (nxt r.ids x:Nat))/\∃d,w.drewN d=w':=by
 have c0:w.cell? ⟨b,0,none⟩=some (.pointer (some ⟨A.rb,0,none⟩)):=h.c 0 (by omega);have HN:=ii h.rr (x:Int);rw[Ff hx]at HN;unfold nxt
 cases e:r.ids[r.ids.idxOf x+1]? with
 |some y=>
  rw[e]at HN;simp only[ixI]at HN;have HN:=Hd HN;clear h hx e;go_enter func261,ntmps261
  go_wp2_with(go_at_call 174;refine HN.out.mono ?_;rintro e w'⟨rfl,rfl⟩)
  go_returns;exact⟨rfl,0,rfl⟩
 |none=>
  rw[e]at HN;have HF:=bi h.rr 0;rw[show bZ [r.ids,r.sp] 0=r.ids from rfl]at HF
  have hh:ixI r.ids.head?=((r.ids.head?.getD 0:Nat):Int):=by
   cases el:r.ids with
   |nil=>rw[el]at hx;cases hx
   |cons a t=>rfl
  rw[hh]at HF;simp only[ixI]at HN;have HN:=Hd HN;have HF:=Hd HF;clear h hx e hh;go_enter func261,ntmps261
  go_wp2_with(first
   |(go_at_call 174;refine HN.out.mono ?_;rintro e w'⟨rfl,rfl⟩)
   |(go_at_call 173;refine HF.out.mono ?_;rintro e w'⟨rfl,d,rfl⟩))
  go_returns;exact⟨rfl,_,rfl⟩
def Raw.move(r:Raw)(j:Nat):Raw:={r with h:=upd r.h j (nxt r.ids (r.h j))}
theorem PC.hand(h:PC w b n A r){j:Nat}(hj:j<3):w.cell? ⟨b,2+j,none⟩=some (.int .i64 (r.h j:Nat)):=by
 rw[h.c (2+j) (by omega)]
 match j,hj with
 |0,_=>rfl
 |1,_=>rfl
 |2,_=>rfl
theorem pj(h:PC w b n A r){j:Nat}(hj:j<3)(hx:r.h j∈r.ids):Calls prog 253 #[.pointer (some ⟨b,0,none⟩),.int .i64 j] w λe w'=>e=.returned (.tuple #[])/\PC w' b n A (r.move j)/\Fr (λi=>i=b) w w':=by
 have ch:=h.hand hj;have fz:∀W,Fr NoF w W->W.frozen? ⟨b,2+j,none⟩=false:=λW g=>(h.hd.fr g id).frozen _
 have ct:∀W,Fr NoF w W->∃v,W.cell? ⟨b,2+j,none⟩=some v:=λW g=>⟨_,(h.hd.fr g id).cell (by omega)⟩
 have HN:=Hd (λW (g:Fr NoF w W)=>vQ (h.fr0 g) hx)
 have HK:Hid (∀d,PC ((w.drewN d).setCell ⟨b,2+j,none⟩ (.int .i64 (nxt r.ids (r.h j):Nat))) b n A (r.move j)/\Fr (λi=>i=b) w ((w.drewN d).setCell ⟨b,2+j,none⟩ (.int .i64 (nxt r.ids (r.h j):Nat)))):=λd=>by
  have h1:PC (w.drewN d) b n A r:=h.fr0 ((Fr.refl NoF w).drewN d);exact⟨h1.setHead (r':=r.move j) (uT _ _ _ _ _ _ hj) rfl,((Fr.refl (λi=>i=b) w).drewN d).setCell (p:=⟨b,2+j,none⟩) (.inl rfl) _⟩
 have hb:=h.hd.lt;have HH:=Hd h.hd;clear h hx fz ct;generalize nxt r.ids (r.h j)=z at*;generalize hxx:r.h j=x at*
 match j,hj with
 |0,_=>
  have fz0:w.frozen? ⟨b,2,none⟩=false:=HH.out.frozen _;go_enter func253,ntmps253
  go_region_with (go_at_call 261;(with_reducible refine(HN.out _ (by repeat(first|exact Fr.refl NoF _|apply Fr.drew|apply Fr.drewN))).mono ?_);rintro e w'⟨rfl,d,rfl⟩)
  all_goals go_wp2
  all_goals go_returns
  all_goals exact⟨rfl,HK.out _⟩
 |1,_=>
  have fz0:w.frozen? ⟨b,3,none⟩=false:=HH.out.frozen _;go_enter func253,ntmps253
  go_region_with (go_at_call 261;(with_reducible refine(HN.out _ (by repeat(first|exact Fr.refl NoF _|apply Fr.drew|apply Fr.drewN))).mono ?_);rintro e w'⟨rfl,d,rfl⟩)
  all_goals go_wp2
  all_goals go_returns
  all_goals exact⟨rfl,HK.out _⟩
 |2,_=>
  have fz0:w.frozen? ⟨b,4,none⟩=false:=HH.out.frozen _;go_enter func253,ntmps253
  go_region_with (go_at_call 261;(with_reducible refine(HN.out _ (by repeat(first|exact Fr.refl NoF _|apply Fr.drew|apply Fr.drewN))).mono ?_);rintro e w'⟨rfl,d,rfl⟩)
  all_goals go_wp2
  all_goals go_returns
  all_goals exact⟨rfl,HK.out _⟩
def Raw.mid(r:Raw)(x q:Nat):Raw:={r with h:=λj=>if j<q/\r.h j=x then nxt r.ids x else r.h j}
def Raw.leave(r:Raw)(x:Nat):Raw:={r with h:=λj=>if r.h j=x then nxt r.ids x else r.h j,ids:=ac r.ids x}
theorem BU{x q:Nat}(e:r.h q=x):(r.mid x q).move q=r.mid x (q+1):=by
 unfold Raw.mid Raw.move;simp only[Nat.lt_irrefl,false_and,if_false]
 congr 1
 funext j
 by_cases ej:j=q
 .subst ej;rw[upd_same,if_pos ⟨by omega,e⟩,e]
 .rw[aa _ _ ej]
  by_cases e1:j<q/\r.h j=x
  .rw[if_pos e1,if_pos ⟨by omega,e1.2⟩]
  .rw[if_neg e1,if_neg (λc=>e1 ⟨by omega,c.2⟩)]
theorem sy{x q:Nat}(e:¬r.h q=x):r.mid x (q+1)=r.mid x q:=by
 unfold Raw.mid
 congr 1
 funext j
 by_cases e1:j<q/\r.h j=x
 .rw[if_pos e1,if_pos ⟨by omega,e1.2⟩]
 .rw[if_neg e1,if_neg (λc=>e1 ⟨by have:¬j=q:=(λq'=>e (q'▸c.2));omega,c.2⟩)]
theorem ru(h:PC w b n A r){x:Nat}(hx:x∈r.ids):Calls prog 264 #[.pointer (some ⟨b,0,none⟩),.int .i64 x] w λe w'=>e=.returned (.tuple #[])/\PC w' b n A (r.leave x)/\Fr (FCk A b) w w':=by
 have ch0:w.cell? ⟨b,2,none⟩=some (.int .i64 (r.h 0:Nat)):=h.hand (j:=0) (by omega);have ch1:w.cell? ⟨b,3,none⟩=some (.int .i64 (r.h 1:Nat)):=h.hand (j:=1) (by omega);have ch2:w.cell? ⟨b,4,none⟩=some (.int .i64 (r.h 2:Nat)):=h.hand (j:=2) (by omega);have H:=Hd h;have HX:=Hd hx
 have HS:Hid (∀q,q<3->∀w1,PC w1 b n A (r.mid x q)->r.h q=x->Calls prog 253 #[.pointer (some ⟨b,0,none⟩),.int .i64 q] w1 λe w'=>e=.returned (.tuple #[])/\PC w' b n A (r.mid x (q+1))/\Fr (λi=>i=b) w1 w'):=by
  intro q hq w1 h1 e;have hm:(r.mid x q).h q=x:=by unfold Raw.mid;simp[e]
  have:=pj h1 hq (by rw[hm];exact hx);rw[BU e]at this;exact this
 have HS0:Hid (∀w1,PC w1 b n A (r.mid x 0)->r.h 0=x->Calls prog 253 #[.pointer (some ⟨b,0,none⟩),.int .i64 0] w1 λe w'=>e=.returned (.tuple #[])/\PC w' b n A (r.mid x 1)/\Fr (λi=>i=b) w1 w'):=λw1=>HS.out 0 (by omega) w1
 have HS1:Hid (∀w1,PC w1 b n A (r.mid x 1)->r.h 1=x->Calls prog 253 #[.pointer (some ⟨b,0,none⟩),.int .i64 1] w1 λe w'=>e=.returned (.tuple #[])/\PC w' b n A (r.mid x 2)/\Fr (λi=>i=b) w1 w'):=λw1=>HS.out 1 (by omega) w1
 have HS2:Hid (∀w1,PC w1 b n A (r.mid x 2)->r.h 2=x->Calls prog 253 #[.pointer (some ⟨b,0,none⟩),.int .i64 2] w1 λe w'=>e=.returned (.tuple #[])/\PC w' b n A (r.mid x 3)/\Fr (λi=>i=b) w1 w'):=λw1=>HS.out 2 (by omega) w1
 clear h hx HS;generalize h0e:r.h 0=h0 at*;generalize h1e:r.h 1=h1 at*;generalize h2e:r.h 2=h2 at*;have H0E:=Hd h0e;have H1E:=Hd h1e;have H2E:=Hd h2e;clear h0e h1e h2e;have i0:∀w,(Instr.index 152 (.agg #[.int .i64 h0,.int .i64 h1,.int .i64 h2]) (.int .i64 0)).run prog w=.ok (.int .i64 h0) w:=λ_=>by kernel_rfl
 have i1:∀w,(Instr.index 152 (.agg #[.int .i64 h0,.int .i64 h1,.int .i64 h2]) (.int .i64 1)).run prog w=.ok (.int .i64 h1) w:=λ_=>by kernel_rfl
 have i2:∀w,(Instr.index 152 (.agg #[.int .i64 h0,.int .i64 h1,.int .i64 h2]) (.int .i64 2)).run prog w=.ok (.int .i64 h2) w:=λ_=>by kernel_rfl
 go_enter func264,ntmps264
 go_wp2_with fail
 go_loopw [10] (λk wr=>∃(q:Nat) (z:Int),k=.int .i64 z/\(q=0/\z=0\/q=1/\z=1\/q=2/\z=2\/q=3/\z=3)/\PC wr b n A (r.mid x q)/\Fr (λi=>i=b) w wr) (λk _=>3-(intOf k).toNat)
 case atStart=>exact⟨0,0,rfl,.inl ⟨rfl,rfl⟩,by have:=H.out;unfold Raw.mid;simpa using this,Fr.refl _ _⟩
 case round=>
  obtain⟨q,z,rfl,hz,h4,f4⟩:=hrel;have H4:=Hd h4;have F4:=Hd f4;clear h4 f4 ch0 ch1 ch2;obtain⟨rfl,rfl⟩|⟨rfl,rfl⟩|⟨rfl,rfl⟩|⟨rfl,rfl⟩:=hz
  rotate_right
  .have c0:wr.cell? ⟨b,0,none⟩=some (.pointer (some ⟨A.rb,0,none⟩)):=H4.out.c 0 (by omega)
   have HO:=Hd (jX H4.out.rr (x:Int))
   go_wp2_with fail
   refine HO.out.mono ?_;clear HO;rintro e w5⟨rfl,hR,f5⟩
   have key:PC w5 b n A (r.leave x)/\Fr (FCk A b) w w5:=by
    have hm:=H4.out;obtain⟨_,_,_,_,hd⟩:=hm.lists
    have hR':RR w5 A.rb (2*n) 2 [ac r.ids x,r.sp] A.FR:=by
     have e1:lT [(r.mid x 3).ids,(r.mid x 3).sp] (x:Int)=[ac r.ids x,r.sp]:=by
      rw[lT,if_pos (by omega),Int.toNat_natCast];have e2:=mK hd x;have e3:ac r.sp x=r.sp:=ah (hd x HX.out);rw[show ac (r.mid x 3).sp x=r.sp from e3]at e2;exact e2
     rw[e1]at hR;exact hR
    have hp:=hm.rows f5 hR';refine⟨⟨?_,hp.rr,hp.en,hp.fb,hp.mp,hp.lb,hp.hn⟩,(F4.out.mono (λi q=>.inl q)).trans f5 (λi q=>.inl (.inr q))⟩;refine hp.hd.congr (λi hi=>?_)
    match i with
    |0=>rfl
    |1=>rfl
    |2=>simp[prH,Raw.mid,Raw.leave]
    |3=>simp[prH,Raw.mid,Raw.leave]
    |4=>simp[prH,Raw.mid,Raw.leave]
    |5=>rfl
    |6=>rfl
    |7=>rfl
    |8=>rfl
    |9=>rfl
    |i+10=>omega
   have KEY:=Hd key;clear hR f5 key;go_wp2;go_returns;exact⟨rfl,KEY.out⟩
  .by_cases ex:h0=x
   .have EX:=Hd ex
    have ex':((h0:Int)==(x:Int))=true:=by simp;omega
    clear ex
    go_wp2_with fail
    refine(HS0.out _ H4.out EX.out).mono ?_;rintro e w5⟨rfl,h5,f5⟩;have H5:=Hd h5;have F5:=Hd (F4.out.trans f5 (λi q=>.inl q));clear h5 f5;go_wp2
    go_roundw
    case rel=>exact⟨1,1,rfl,.inr (.inl ⟨rfl,rfl⟩),H5.out,F5.out⟩
    case measure=>simp[intOf]
   .have EX:=Hd ex
    have ex':((h0:Int)==(x:Int))=false:=by simp;omega
    clear ex;go_wp2
    go_roundw
    case rel=>exact⟨1,1,rfl,.inr (.inl ⟨rfl,rfl⟩),by rw[show(1:Nat)=0+1 from rfl,sy (λc=>EX.out (H0E.out.symm.trans c))];exact H4.out,F4.out⟩
    case measure=>simp[intOf]
  .by_cases ex:h1=x
   .have EX:=Hd ex
    have ex':((h1:Int)==(x:Int))=true:=by simp;omega
    clear ex
    go_wp2_with fail
    refine(HS1.out _ H4.out EX.out).mono ?_;rintro e w5⟨rfl,h5,f5⟩;have H5:=Hd h5;have F5:=Hd (F4.out.trans f5 (λi q=>.inl q));clear h5 f5;go_wp2
    go_roundw
    case rel=>exact⟨2,2,rfl,.inr (.inr (.inl ⟨rfl,rfl⟩)),H5.out,F5.out⟩
    case measure=>simp[intOf]
   .have EX:=Hd ex
    have ex':((h1:Int)==(x:Int))=false:=by simp;omega
    clear ex;go_wp2
    go_roundw
    case rel=>exact⟨2,2,rfl,.inr (.inr (.inl ⟨rfl,rfl⟩)),by rw[show(2:Nat)=1+1 from rfl,sy (λc=>EX.out (H1E.out.symm.trans c))];exact H4.out,F4.out⟩
    case measure=>simp[intOf]
  .by_cases ex:h2=x
   .have EX:=Hd ex
    have ex':((h2:Int)==(x:Int))=true:=by simp;omega
    clear ex
    go_wp2_with fail
    refine(HS2.out _ H4.out EX.out).mono ?_;rintro e w5⟨rfl,h5,f5⟩;have H5:=Hd h5;have F5:=Hd (F4.out.trans f5 (λi q=>.inl q));clear h5 f5;go_wp2
    go_roundw
    case rel=>exact⟨3,3,rfl,.inr (.inr (.inr ⟨rfl,rfl⟩)),H5.out,F5.out⟩
    case measure=>simp[intOf]
   .have EX:=Hd ex
    have ex':((h2:Int)==(x:Int))=false:=by simp;omega
    clear ex;go_wp2
    go_roundw
    case rel=>exact⟨3,3,rfl,.inr (.inr (.inr ⟨rfl,rfl⟩)),by rw[show(3:Nat)=2+1 from rfl,sy (λc=>EX.out (H2E.out.symm.trans c))];exact H4.out,F4.out⟩
    case measure=>simp[intOf]
end
def Raw.lay(r:Raw)(x:Nat):Raw:=
 if r.ids=[]then{r with ids:=[x],sp:=ac r.sp x,h:=λ_=>x}else{r with ids:=insL r.ids x (r.h 0),sp:=ac r.sp x}
def Raw.drop(r:Raw)(x:Nat):Raw:={r.leave x with sp:=r.sp++[x]}
def Raw.come(r:Raw)(y:En):Raw:=Raw.lay {r with e:=upd r.e (r.sp.head?.getD 0) y,v:=upd r.v (r.sp.head?.getD 0) false} (r.sp.head?.getD 0)
section
variable{w w':World}{b n:Nat}{A:AP}{r:Raw}
theorem PC.hands(h:PC w b n A r)(x:Nat):PC (((w.setCell ⟨b,2,none⟩ (.int .i64 (x:Nat))).setCell ⟨b,3,none⟩ (.int .i64 (x:Nat))).setCell ⟨b,4,none⟩ (.int .i64 (x:Nat))) b n A {r with h:=λ_=>x}:=by
 have h1:=h.setHead (r':={r with h:=upd r.h 0 x}) (uT _ _ _ _ 0 x (by omega)) rfl;have h2:=h1.setHead (r':={r with h:=upd (upd r.h 0 x) 1 x}) (uT _ _ _ _ 1 x (by omega)) rfl;have h3:=h2.setHead (r':={r with h:=upd (upd (upd r.h 0 x) 1 x) 2 x}) (uT _ _ _ _ 2 x (by omega)) rfl;refine⟨h3.hd.congr (λi hi=>?_),h3.rr,h3.en,h3.fb,h3.mp,h3.lb,h3.hn⟩
 match i with
 |0=>rfl
 |1=>rfl
 |2=>simp[prH,upd]
 |3=>simp[prH,upd]
 |4=>simp[prH,upd]
 |5=>rfl
 |6=>rfl
 |7=>rfl
 |8=>rfl
 |9=>rfl
 |i+10=>omega
theorem Cj(h:PC w b n A r){x:Nat}(hx:x<2*n)(he:r.ids=[]):Calls prog 256 #[.pointer (some ⟨b,0,none⟩),.int .i64 x] w λe w'=>e=.returned (.tuple #[])/\PC w' b n A (r.lay x)/\Fr (FCk A b) w w':=by
 have HL:=sn h;rw[he]at HL;have HL:=Hd HL;have c0:w.cell? ⟨b,0,none⟩=some (.pointer (some ⟨A.rb,0,none⟩)):=h.c 0 (by omega);have HB:=Hd (aI h.rr 0 x (by omega) hx);have H:=Hd h;have HE:=Hd he;have hb:=h.hd.lt;clear h he hx;go_enter func256,ntmps256
 go_wp2_with(go_at_call 250;refine HL.out.mono ?_;rintro e w'⟨rfl,rfl⟩)
 refine HB.out.mono ?_;clear HB HL;rintro e w1⟨rfl,hR,f1⟩
 have key:PC w1 b n A {r with ids:=[x],sp:=ac r.sp x}:=by
  have hp:=H.out
  have hR':RR w1 A.rb (2*n) 2 [[x],ac r.sp x] A.FR:=by
   have e1:=j8 (l:=r.ids) (m:=r.sp) hp.lists.2.2.2.2 x;rw[HE.out]at e1;rw[HE.out]at hR;rw[e1]at hR;exact hR
  exact hp.rows f1 hR'
 have hb1:=key.hd;have fz2:=hb1.frozen 2;have fz3:=hb1.frozen 3;have fz4:=hb1.frozen 4;have d2:=hb1.cell (i:=2) (by omega);have d3:=hb1.cell (i:=3) (by omega);have d4:=hb1.cell (i:=4) (by omega);have lb1:=hb1.lt;have KEY:=Hd (key.hands x);have HF:=Hd f1;have HS:Hid (r.lay x={r with ids:=[x],sp:=ac r.sp x,h:=λ_=>x}):=by unfold Hid Raw.lay;rw[if_pos HE.out]
 simp only[prH]at d2 d3 d4;clear key hb1 hR f1 c0;go_wp2;go_returns;refine⟨rfl,by rw[HS.out];exact KEY.out,?_⟩;have f2:Fr (FCk A b) w w1:=HF.out.mono (λi q=>.inr q);exact((f2.setCell (p:=⟨b,2,none⟩) (.inl (.inl rfl)) _).setCell (p:=⟨b,3,none⟩) (.inl (.inl rfl)) _).setCell (p:=⟨b,4,none⟩) (.inl (.inl rfl)) _
theorem BV(h:PC w b n A r){x:Nat}(hx:x<2*n)(hni:¬x∈r.ids)(ho:r.h 0∈r.ids):Calls prog 256 #[.pointer (some ⟨b,0,none⟩),.int .i64 x] w λe w'=>e=.returned (.tuple #[])/\PC w' b n A (r.lay x)/\Fr (FCk A b) w w':=by
 have hne:¬r.ids=[]:=λe=>by rw[e]at ho;cases ho
 have hl0:0<r.ids.length:=by cases e:r.ids with|nil=>exact(hne e).elim|cons a l=>simp
 have HL:=Hd (sn h);have c0:w.cell? ⟨b,0,none⟩=some (.pointer (some ⟨A.rb,0,none⟩)):=h.c 0 (by omega);have c2:w.cell? ⟨b,2,none⟩=some (.int .i64 (r.h 0:Nat)):=h.hand (j:=0) (by omega);have e1:aG [r.ids,r.sp] (r.h 0)=some 0:=by rw[jq,if_pos ho]
 have hxo:¬x=r.h 0:=λe=>hni (e▸ho)
 have HB:=Hd (λW (g:Fr NoF w W)=>tL (h.rr.fr g (λ_ _ q=>q)) x (r.h 0) 0 hx e1 hxo)
 have HK:Hid (∀w1 W,Fr NoF w W->RR w1 A.rb (2*n) 2 (sw [r.ids,r.sp] x (r.h 0)) A.FR->Fr A.FR W w1->PC w1 b n A (r.lay x)/\Fr (FCk A b) w w1):=by
  intro w1 W g hR f1;have hp:=h.fr0 g
  have hb2:sw [r.ids,r.sp] x (r.h 0)=[insL r.ids x (r.h 0),ac r.sp x]:=by
   unfold sw;rw[e1];simp only;rw[mK h.lists.2.2.2.2 x,ah hni];rfl
  rw[hb2]at hR;have:=hp.rows f1 hR;exact⟨by unfold Raw.lay;rw[if_neg hne];exact this,(g.mono (λ_ q=>q.elim)).trans f1 (λi q=>.inl (.inr q))⟩
 have HN:Hid (r.ids.length=0->False):=λe=>by omega
 clear h hni ho hne e1 hxo hx;generalize r.ids.length=len at*;generalize r.h 0=h0 at*;have hd:((len:Int)==0)=false:=by simp;omega
 go_enter func256,ntmps256
 go_wp2_with(go_at_call 250;refine HL.out.mono ?_;rintro e w'⟨rfl,rfl⟩)
 go_region_with (go_at_call 263;(with_reducible refine(HB.out _ (by repeat(first|exact Fr.refl NoF _|apply Fr.drew|apply Fr.drewN))).mono ?_);rintro e w1⟨rfl,hR,f1⟩;have KEY:=Hd (HK.out _ _ (by repeat(first|exact Fr.refl NoF _|apply Fr.drew|apply Fr.drewN)) hR f1);clear hR f1)
 all_goals go_wp2
 all_goals go_returns
 all_goals exact⟨rfl,KEY.out⟩
theorem AK(h:PC w b n A r){x:Nat}(hx:x<2*n)(hni:¬x∈r.ids)(ho:r.ids=[]\/r.h 0∈r.ids):Calls prog 256 #[.pointer (some ⟨b,0,none⟩),.int .i64 x] w λe w'=>e=.returned (.tuple #[])/\PC w' b n A (r.lay x)/\Fr (FCk A b) w w':=by
 rcases ho with ho|ho
 .exact Cj h hx ho
 .exact BV h hx hni ho
theorem Ae(h:PC w b n A r){x:Nat}(hx:x∈r.ids)(ho:(r.leave x).ids=[]\/(r.leave x).h 0∈(r.leave x).ids):Calls prog 258 #[.pointer (some ⟨b,0,none⟩),.int .i64 x] w λe w'=>e=.returned (.tuple #[])/\PC w' b n A ((r.leave x).lay x)/\Fr (FCk A b) w w':=by
 have HA:=Hd (ru h hx)
 have HB:Hid (∀w1,PC w1 b n A (r.leave x)->Calls prog 256 #[.pointer (some ⟨b,0,none⟩),.int .i64 x] w1 λe w'=>e=.returned (.tuple #[])/\PC w' b n A ((r.leave x).lay x)/\Fr (FCk A b) w1 w'):=λw1 h1=>
  AK h1 (h.lists.2.2.1 x hx) (by simp[Raw.leave,ac]) ho
 clear h hx ho;go_enter func258,ntmps258
 go_wp2_with fail
 refine HA.out.mono ?_;rintro e w1⟨rfl,h1,f1⟩;have H1:=Hd h1;have F1:=Hd f1;clear h1 f1 HA
 go_wp2_with fail
 refine(HB.out _ H1.out).mono ?_;rintro e w2⟨rfl,h2,f2⟩;have H2:=Hd (And.intro h2 (F1.out.trans f2 (λi q=>.inl q)));clear h2 f2;go_wp2;go_returns;exact⟨rfl,H2.out⟩
theorem uw(h:PC w b n A r){x:Nat}(hx:x∈r.ids):Calls prog 257 #[.pointer (some ⟨b,0,none⟩),.int .i64 x] w λe w'=>e=.returned (.tuple #[])/\PC w' b n A (r.drop x)/\Fr (FCk A b) w w':=by
 have HA:=Hd (ru h hx);have hx2:=h.lists.2.2.1 x hx;have HD:Hid (∀x∈r.ids,¬x∈r.sp):=h.lists.2.2.2.2;have HX:=Hd hx;clear h hx;go_enter func257,ntmps257
 go_wp2_with fail
 refine HA.out.mono ?_;rintro e w1⟨rfl,h1,f1⟩;have H1:=Hd h1;have F1:=Hd f1;have c0:w1.cell? ⟨b,0,none⟩=some (.pointer (some ⟨A.rb,0,none⟩)):=h1.c 0 (by omega);have HB:=Hd (aI h1.rr 1 x (by omega) hx2);clear h1 f1 HA
 go_wp2_with fail
 refine HB.out.mono ?_;clear HB;rintro e w2⟨rfl,hR,f2⟩
 have key:PC w2 b n A (r.drop x)/\Fr (FCk A b) w w2:=by
  have hp:=H1.out;have e1:=dz (l:=(r.leave x).ids) (m:=(r.leave x).sp) hp.lists.2.2.2.2 x;rw[e1]at hR;have e2:ac (r.leave x).sp x=r.sp:=ah (HD.out x HX.out);have e3:ac (r.leave x).ids x=(r.leave x).ids:=ah (by simp[Raw.leave,ac]);rw[e2,e3]at hR;exact⟨hp.rows f2 hR,F1.out.trans f2 (λi q=>.inl (.inr q))⟩
 have KEY:=Hd key;clear hR f2 key;go_wp2;go_returns;exact⟨rfl,KEY.out⟩
def enV(y:En)(u:Bool):Value:=.agg #[.int .u32 (y.pg:Nat),.int .i64 y.fr,.bool y.hot,.bool y.ref,.bool y.test,.bool u]
end
end
end Go.Proofs.YtoenclhimbpfeaaGreatDoor
