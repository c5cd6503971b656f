/- Part 40. -/
import Derived.Test.YtoenclhimbpfeaaGreatDoorW39
import Derived.Shelf.SlSortCmp.NoneTotal
namespace Go.Proofs.YtoenclhimbpfeaaGreatDoor
set_option linter.all false
set_option maxHeartbeats 16000000
set_option maxRecDepth 100000
section
open Go.Maps Go.Proofs.Tryz Go.RowKit
def RS.copy(r:RS):RS:=⟨r.room,r.L,[],[],0,0,false,0⟩
theorem bv.copy{s:DS}{r:RS}(h:bv s r):bv s.copy r.copy:=⟨h.room,h.L,rfl,rfl,rfl,λq=>(by cases q),λ_ _ _=>rfl,λ_ _ _=>rfl,h.np⟩
section
variable{w w':World}{db m:Nat}{r:RS}{F:Nat->Prop}
theorem ui(h:CD db r m w F):Calls prog 18 #[.pointer (some ⟨db,0,none⟩)] w λe w'=>∃db' F',e=.returned (.pointer (some ⟨db',0,none⟩))/\CD db' r.copy 0 w' F'/\(∀i,F' i->w.heap.size<=i)/\Fr NoF w w':=by
 obtain⟨s,c,pv,fv,mb,fh,nf,h1,h2,h3,h4⟩:=h;refine(Dn h1).mono ?_;rintro e w'⟨db',pv',fv',mb',he,hd,hb,f⟩;exact⟨db',_,he,⟨s.copy,0,pv',fv',mb',fh,nf,hd,.inl (h2.elim (λq=>q.copy) (λq=>q.2.1.copy)),⟨Nat.le_refl _,Nat.le_refl _,Nat.le_refl _⟩,λi=>Iff.rfl⟩,hb,f⟩
end
section
variable{p:PP}{a b:Nat}{w:World}{F:Nat->Prop}{R':World->(Nat->Prop)->Prop}
theorem xt(fr:Frm R'){w0 w1:World}(h0:w0.heap.size=w.heap.size+3)(f0:Fr NoF w w0)(hl:∀i,F i->i<w.heap.size)(ht:0<w.heap.size)(b1:Blk w0 (w.heap.size+1) 3 zAn)(b2:Blk w0 (w.heap.size+1+1) 3 zAn)(h:Led R' F w0 w1):
  Blk w1 (w.heap.size+1) 3 zAn/\Blk w1 (w.heap.size+1+1) 3 zAn/\∀wf,Fr (λj=>j=w.heap.size+1\/j=w.heap.size+1+1) w1 wf->Led R' F w wf:=by
 obtain⟨F',h1,f1,hF⟩:=h;refine⟨b1.fr f1 (λk=>by have:=hl _ k;omega),b2.fr f1 (λk=>by have:=hl _ k;omega),λwf g=>⟨F',fr.fro h1 g (λi k=>?_) (by omega),(Fr.trans (f0.none.trans f1 (λi k=>.inl k)) g (λi k=>.inr (by omega))),λi k=>?_⟩⟩
 .rcases hF i k with c|c
  .have:=hl i c;omega
  .omega
 .rcases hF i k with c|c
  .exact .inl c
  .exact .inr (by omega)
end
end
section
open Go.Lib Go.Maps Go.Proofs.Tryz Go.RowKit Go.Shelf
open Go.Sort hiding Below
def Tryz.sortIn_ren : Go.Shelf.Ren := ⟨fun | 6 => 95 | 15 => 104 | 14 => 110 | 28 => 122 | 29 => 123 | 20 => 125 | 21 => 126 | 22 => 127 | 23 => 128 | 24 => 129 | 25 => 130 | 26 => 131 | 27 => 132 | 46 => 138 | 47 => 134 | 48 => 135 | 49 => 139 | 50 => 140 | 57 => 142 | n => n, fun | 22 => 157 | 24 => 3 | 25 => 201 | 3 => 3 | 39 => 206 | 0 => 0 | 53 => 34 | 55 => 27 | 4 => 4 | 46 => 218 | 45 => 217 | 50 => 197 | 5 => 5 | 9 => 9 | 66 => 230 | 70 => 234 | 76 => 238 | 77 => 239 | n => n, fun | n => n⟩
theorem Tryz.sortIn : Go.Proofs.SlLaysF.n6 Tryz.prog Tryz.sortIn_ren := {
  mixed := by kernel_rfl,
  f6 := ⟨Tryz.f95.name, by decide, Tryz.func95.trans (congrArg some (by kernel_rfl))⟩,
  f14 := ⟨Tryz.f110.name, by decide, Tryz.func110.trans (congrArg some (by kernel_rfl))⟩,
  f15 := Tryz.func104.trans (congrArg some (by kernel_rfl)),
  f20 := ⟨Tryz.f125.name, by decide, Tryz.func125.trans (congrArg some (by kernel_rfl))⟩,
  f21 := ⟨Tryz.f126.name, by decide, Tryz.func126.trans (congrArg some (by kernel_rfl))⟩,
  f22 := ⟨Tryz.f127.name, by decide, Tryz.func127.trans (congrArg some (by kernel_rfl))⟩,
  f23 := ⟨Tryz.f128.name, by decide, Tryz.func128.trans (congrArg some (by kernel_rfl))⟩,
  f24 := ⟨Tryz.f129.name, by decide, Tryz.func129.trans (congrArg some (by kernel_rfl))⟩,
  f25 := ⟨Tryz.f130.name, by decide, Tryz.func130.trans (congrArg some (by kernel_rfl))⟩,
  f26 := ⟨Tryz.f131.name, by decide, Tryz.func131.trans (congrArg some (by kernel_rfl))⟩,
  f27 := ⟨Tryz.f132.name, by decide, Tryz.func132.trans (congrArg some (by kernel_rfl))⟩,
  f28 := Tryz.func122.trans (congrArg some (by kernel_rfl)),
  f29 := Tryz.func123.trans (congrArg some (by kernel_rfl)),
  f46 := ⟨Tryz.f138.name, by decide, Tryz.func138.trans (congrArg some (by kernel_rfl))⟩,
  f47 := Tryz.func134.trans (congrArg some (by kernel_rfl)),
  f48 := Tryz.func135.trans (congrArg some (by kernel_rfl)),
  f49 := ⟨Tryz.f139.name, by decide, Tryz.func139.trans (congrArg some (by kernel_rfl))⟩,
  f50 := ⟨Tryz.f140.name, by decide, Tryz.func140.trans (congrArg some (by kernel_rfl))⟩,
  f57 := ⟨Tryz.f142.name, by decide, Tryz.func142.trans (congrArg some (by kernel_rfl))⟩,
  t0 := Tryz.underlying0,
  a0 := Tryz.isAgg0,
  z0 := Tryz.sizeOf0,
  v0 := Tryz.zeroValue0,
  t3 := Tryz.underlying3,
  a3 := Tryz.isAgg3,
  z3 := Tryz.sizeOf3,
  v3 := Tryz.zeroValue3,
  t4 := Tryz.underlying4,
  a4 := Tryz.isAgg4,
  z4 := Tryz.sizeOf4,
  v4 := Tryz.zeroValue4,
  t5 := Tryz.underlying5,
  a5 := Tryz.isAgg5,
  z5 := Tryz.sizeOf5,
  v5 := Tryz.zeroValue5,
  t9 := Tryz.underlying9,
  a9 := Tryz.isAgg9,
  z9 := Tryz.sizeOf9,
  v9 := Tryz.zeroValue9,
  t22 := Tryz.underlying157,
  a22 := Tryz.isAgg157,
  z22 := Tryz.sizeOf157,
  v22 := Tryz.zeroValue157,
  a24 := Tryz.isAgg3,
  z24 := Tryz.sizeOf3,
  t25 := Tryz.underlying201,
  a25 := Tryz.isAgg201,
  z25 := Tryz.sizeOf201,
  v25 := Tryz.zeroValue201,
  t39 := Tryz.underlying206,
  a39 := Tryz.isAgg206,
  z39 := Tryz.sizeOf206,
  v39 := Tryz.zeroValue206,
  t45 := Tryz.underlying217,
  a45 := Tryz.isAgg217,
  z45 := Tryz.sizeOf217,
  v45 := Tryz.zeroValue217,
  t46 := Tryz.underlying218,
  a46 := Tryz.isAgg218,
  z46 := Tryz.sizeOf218,
  v46 := Tryz.zeroValue218,
  t50 := Tryz.underlying197,
  a50 := Tryz.isAgg197,
  z50 := Tryz.sizeOf197,
  v50 := Tryz.zeroValue197,
  t53 := Tryz.underlying34,
  a53 := Tryz.isAgg34,
  z53 := Tryz.sizeOf34,
  v53 := Tryz.zeroValue34,
  t55 := Tryz.underlying27,
  a55 := Tryz.isAgg27,
  z55 := Tryz.sizeOf27,
  v55 := Tryz.zeroValue27,
  t66 := Tryz.underlying230,
  a66 := Tryz.isAgg230,
  z66 := Tryz.sizeOf230,
  v66 := Tryz.zeroValue230,
  t70 := Tryz.underlying234,
  a70 := Tryz.isAgg234,
  z70 := Tryz.sizeOf234,
  v70 := Tryz.zeroValue234,
  t76 := Tryz.underlying238,
  a76 := Tryz.isAgg238,
  z76 := Tryz.sizeOf238,
  v76 := Tryz.zeroValue238,
  t77 := Tryz.underlying239,
  a77 := Tryz.isAgg239,
  z77 := Tryz.sizeOf239,
  v77 := Tryz.zeroValue239 }
def gK{n:Nat}:(l:List Nat)->(∀x∈l,x<n)->List (Fin n)
 |[],_=>[]
 |x::l,h=>⟨x,h x (List.mem_cons_self ..)⟩::gK l (λy hy=>h y (List.mem_cons_of_mem _ hy))
theorem ig{n:Nat}:∀(l:List Nat) (h:∀x∈l,x<n),(gK l h).map (λx=>x.val)=l
 |[],_=>rfl
 |x::l,h=>by
  show x::(gK l _).map _=x::l
  rw[ig l]
theorem iJ{n:Nat}(l:List Nat)(h:∀x∈l,x<n):(gK l h).length=l.length:=by
 have:=congrArg List.length (ig l h)
 rwa [List.length_map]at this
def ft{n:Nat}(x:Fin n):Value:=.int .i64 (x.val:Int)
theorem Hk{n:Nat}:OneCell (ft (n:=n)):=λx=>rfl
section
variable{W W':World}{n:Nat}[Inhabited (Fin n)]
theorem kK{blk m:Nat}{d:Array (Fin n)}{os:Array Obj}:Fr (λi=>i=blk) W (sortWorld ft W blk 0 m d os):=by
 refine⟨rfl,rfl,rfl,?_,λk hk hF=>?_⟩
 .show W.heap.size<=((putRow ft (Go.Sort.ahead W m) blk 0 d).heap++os).size
  rw[Array.size_append];have:(putRow ft (Go.Sort.ahead W m) blk 0 d).heap.size=W.heap.size:=by simp[putRow,mapBlock,Go.Sort.ahead]
  omega
 .have hz:(putRow ft (Go.Sort.ahead W m) blk 0 d).heap.size=W.heap.size:=by simp[putRow,mapBlock,Go.Sort.ahead]
  have e1:(sortWorld ft W blk 0 m d os).heap[k]?=(putRow ft (Go.Sort.ahead W m) blk 0 d).heap[k]?:=by
   show((putRow ft (Go.Sort.ahead W m) blk 0 d).heap++os)[k]?=_
   rw[Array.getElem?_append_left (by omega)]
  rw[e1]
  show(W.heap.modify blk _)[k]?=_
  rw[Array.getElem?_modify,if_neg (λq=>hF q.symm)]
theorem Ew{base g cap:Nat}{l:List Nat}(hmem:∀x∈l,x<n)(h:OwK .i64 base 3 W (.slice (some ⟨g,0,none⟩) l.length cap) l):Holds ft W g 0 (gK l hmem).toArray:=by
 intro j hj;have hs:(gK l hmem).toArray.size=l.length:=by rw[List.size_toArray,iJ]
 have hjl:j<l.length:=by omega
 obtain⟨hl,h2⟩:=h;rcases h2 with⟨h2,_⟩|⟨g',cap',cur,e,hg,hh,h3,h4,h5,h6⟩
 .cases h2
 .simp only[Value.slice.injEq,Option.some.injEq,Addr.mk.injEq]at e
  obtain⟨⟨rfl,_⟩,_,rfl⟩:=e
  have hc:cur[j]?=some (.int .i64 (l[j]:Nat)):=by
   have hq:(cur.toList.take (l.length*1))[j]?=some (.int .i64 (l[j]:Nat)):=by rw[h6];simp[hjl]
   rw[List.getElem?_take,if_pos (by omega)]at hq;simpa using hq
  have hv:ft ((gK l hmem).toArray[j]!)=.int .i64 (l[j]:Nat):=by
   rw[getElem!_pos (gK l hmem).toArray j hj];unfold ft;have e2:((gK l hmem).map (λx=>x.val))[j]?=l[j]?:=by rw[ig]
   have hj2:j<(gK l hmem).length:=by rw[iJ];exact hjl
   rw[List.getElem?_map,List.getElem?_eq_getElem hj2,List.getElem?_eq_getElem hjl]at e2;simp at e2;simp[e2]
  rw[hv];constructor
  .simp[World.cell?,hh,hc]
  .simp[World.frozen?,hh]
end
section
variable{p:PP}{f:Nat->FrS}
theorem iY(x y:Nat):cmpZ x y<0↔x<y:=by
 unfold cmpZ
 split
 .constructor
  .intro _;omega
  .intro _;omega
 .split
  .constructor
   .intro q;omega
   .intro q;omega
  .constructor
   .intro q;omega
   .intro q;omega
theorem Hh(n:Nat):SWO (ltOf λx y:Fin n=>cmpZ (f x.val).id (f y.val).id) where
 irrefl x:=by unfold ltOf;rw[decide_eq_false_iff_not,iY];omega
 trans x y z h1 h2:=by unfold ltOf at*;rw[decide_eq_true_eq,iY]at*;omega
 ntrans x y z h1 h2:=by unfold ltOf at*;rw[decide_eq_false_iff_not,iY]at*;omega
theorem Au(bx base:Nat):oh p f bx base:=by
 intro W v l ho hbx hmem hll hb hbl hM hown htb;obtain⟨pl,E,I,sc,m,hM⟩:=hM;have hbase:=ho.base;have h0:=ho;obtain⟨hl,h2⟩:=ho;rcases h2 with⟨rfl,hz⟩|⟨g,cap,cur,rfl,hg,hh,h3,h4,h5,h6⟩
 .have hl0:l=[]:=List.length_eq_zero_iff.1 hz
  subst hl0;have hS:=AnyF.slices_SortFunc_none (P:=prog) (ρ:=Tryz.sortIn_ren) {Tryz.sortIn with} none 0 (.func (.func 96) #[] #[.pointer (some ⟨bx,0,none⟩)]) W;change Calls prog 95 _ _ _ at hS;refine hS.mono ?_;rintro e w'⟨rfl,rfl⟩;exact⟨rfl,[],List.Perm.refl _,λi j hi=>absurd hi (Nat.not_lt_zero i),SlK.nil _ _,Fr.refl _ _⟩
 .have hn:=hM.hn
  haveI:Inhabited (Fin p.n):=⟨⟨0,hn.1⟩⟩
  have hH:=Ew hmem h0;have hgl:=(World.ownsRow.lt h0 g rfl).2;have hgb:=hbase g rfl;have hsz:(gK l hmem).toArray.size=l.length:=by rw[List.size_toArray,iJ]
  have hcmp:CmpLays1 prog 96 #[.pointer (some ⟨bx,0,none⟩)] ft (λx y:Fin p.n=>cmpZ (f x.val).id (f y.val).id) g 0 (gK l hmem).toArray.size W:=by
   intro k os dk hdk x y;have fs:Fr (λi=>i=g) W (sortWorld ft W g 0 k dk os):=kK;have hM2:=hM.fro fs (λi q e=>by have:=hown i q;omega) (λe=>by have h9:0=g:=e;omega);have hb2:(sortWorld ft W g 0 k dk os).cell? ⟨bx,0,none⟩=some p.ptr:=by rw[fs.cell (p:=⟨bx,0,none⟩) hbl (by show¬bx=g;omega)];exact hb
   refine(tA hM2 x.isLt y.isLt hb2 (Nat.lt_of_lt_of_le hbl fs.size)).mono ?_;rintro e w'⟨he,q,rfl⟩;exact⟨he,q,#[],by rw[grow_empty]⟩
  have hS:=Any.slices_SortFunc Tryz.sortIn ft Hk (λx y:Fin p.n=>cmpZ (f x.val).id (f y.val).id) (Hh p.n) 96 #[.pointer (some ⟨bx,0,none⟩)] g 0 cap (gK l hmem).toArray W (enters_of func96 (by kernel_rfl) rfl) hcmp hH hgl (by omega);rw[hsz]at hS;change Calls prog 95 _ _ _ at hS;refine hS.mono ?_;rintro e w'⟨rfl,d',k,os,⟨p1,p2,p3⟩,hsd,rfl⟩;have hs':d'.size=l.length:=by rw[p1,hsz]
  have hH':=holds_sortWorld ft W g 0 k (gK l hmem).toArray d' os hgl hH p1;have e1:(d'.extract 0 l.length).toList=d'.toList:=by rw[<-hs'];simp
  have e2:((gK l hmem).toArray.extract 0 l.length).toList=gK l hmem:=by
   have:=iJ l hmem;simp[List.take_of_length_le,this]
  rw[e1,e2]at p3
  have hp:(d'.toList.map (λx=>x.val)).Perm l:=by
   have:=p3.map (λx=>x.val)
   rwa [ig]at this
  have hlen:(d'.toList.map (λx=>x.val)).length=l.length:=hp.length_eq
  have hat:∀i (hi:i<(d'.toList.map (λx=>x.val)).length),(d'.toList.map (λx=>x.val))[i]=(d'[i]!).val:=λi hi=>by
   rw[getElem!_pos d' i (by rw[hs'];omega)];simp
  refine⟨rfl,_,hp,λi j hi hj hij=>?_,?_,kK.mono (λi q=>by rw[q];rfl)⟩
  .have:=hsd i j (Nat.zero_le _) hij (by omega)
   unfold ltOf at this;rw[decide_eq_false_iff_not,iY]at this;rw[hat i hi,hat j hj];exact this
  .refine⟨some ⟨g,0,none⟩,cap,by rw[hlen],by simp[hs'],λu hu=>?_,by rw[hlen];exact h3,h4,.inr ⟨g,0,rfl,Nat.lt_of_lt_of_le hgl kK.size,λj u hj=>?_⟩⟩
   .obtain⟨y,_,rfl⟩:=List.mem_map.1 hu
    rfl
   .have hjl:j<d'.size:=by
     have:=(List.getElem?_eq_some_iff.1 hj).1;simpa using this
    rw[(hH' j hjl).1];simp[hjl]at hj;rw[<-hj];unfold ft;rw[getElem!_pos d' j hjl]
end
end
section
open Go.Maps Go.Proofs.Tryz Go.RowKit
section
variable{p:PP}{q:Bool}{M:AM}{m:Nat}{w:World}{F:Nat->Prop}
def jU(p:PP)(q:Bool)(M:AM)(m:Nat)(w:World)(F:Nat->Prop):Prop:=
 ∃(τ:Type) (P:Adv τ) (RR:World->τ->(Nat->Prop)->Prop) (ok:Nat->τ->(Nat->Nat)->(Nat->Bool)->Prop) (X:PS τ),aJ P RR p.pb p.rv p.n ok/\PW RR ok p X m w F/\Abs p.n X M/\M.okA/\(q=true->X.sc=0/\kO P p.n ok)/\∀i,i<p.n->(X.f i).dirty=false
theorem jU.any(h:jU p q M m w F):au p q M m w F:=by
 obtain⟨τ,P,RR,ok,X,S,H,A,O,K,_⟩:=h;exact⟨τ,P,RR,ok,X,S,H,A,O,K⟩
theorem au.fa(h:au p q M m w F)(hm:m<60000)(hn:p.n<=64):Calls prog 43 #[p.ptr] w λe w'=>e=.returned (.int .i64 0)/\Led (jU p q M (m+100)) F w w':=by
 obtain⟨τ,P,RR,ok,X,S,H,A,O,K⟩:=h;refine(y9 S H hm hn (Au _ _)).mono ?_;rintro e w'⟨l,hp,_,he,hl⟩
 obtain⟨r1,r2,r3,r4⟩:=A.flushLE l (λk hk=>by
  obtain⟨k1,k2⟩:=iN.1 (hp.mem_iff.1 hk);refine⟨k1,λh0=>?_⟩;rw[A.inv.em k k1 h0]at k2
  cases k2)
 refine⟨by rw[he,r1];rfl,hl.mono (λF' h'=>⟨τ,P,RR,ok,_,S,h',r2,O,λhq=>⟨by rw[xZ];exact(K hq).1,(K hq).2⟩,λi hi=>?_⟩)⟩
 cases e2:((X.flushL l).2.f i).dirty with
 |false=>rfl
 |true=>
  obtain⟨c1,c2⟩:=r4 i e2;exact(c2 (hp.mem_iff.2 (iN.2 ⟨hi,c1⟩))).elim
end
end
end Go.Proofs.YtoenclhimbpfeaaGreatDoor
