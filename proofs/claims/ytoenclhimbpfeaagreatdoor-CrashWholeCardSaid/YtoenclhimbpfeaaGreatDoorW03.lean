/- Part 3. -/
import Derived.Test.YtoenclhimbpfeaaGreatDoorW02
namespace Go.Proofs.YtoenclhimbpfeaaGreatDoor
set_option linter.all false
set_option maxHeartbeats 16000000
set_option maxRecDepth 100000
section
open Go.Proofs.Tryz Go.RowKit
section
variable{w:World}{b n m:Nat}{L:List (List Nat)}{F:Nat->Prop}
theorem RInv.get_out{rw nx pv ls:Nat->Nat}(h:RInv n m rw nx pv ls L){k:Nat}(hk:k<m):∃l,L[k]?=some l/\L[k]?.getD []=l:=by
 have:k<L.length:=by have:=h.len;omega
 exact⟨L[k],List.getElem?_eq_getElem this,by simp[this]⟩
theorem aI(h:RR w b n m L F)(k x:Nat)(hk:k<m)(hx:x<n):
  Calls prog 74 #[.pointer (some ⟨b,0,none⟩),.int .i64 k,.int .i64 x] w λe w'=>e=.returned (.bool true)/\RR w' b n m (cH L k x false) F/\Fr F w w':=by
 obtain⟨nb,lb,rw,nx,pv,ls,hc,hi,hF⟩:=h.ex;have hF':Hid (∀i,i=nb\/i=lb->F i):=λi q=>(hF i).2 (.inr q)
 have HF:Hid (∀i,F i↔i=b\/i=nb\/i=lb):=hF;have HX:=Hd (hi.rowIx_out x);have hm:=hc.hm;clear hF h;go_enter func74,ntmps74
 go_wp2_with(first
  |(go_at_call 98;refine(jt hc (by omega) (by omega)).mono ?_;rintro e w'⟨rfl,rfl⟩)
  |(go_at_call 99;refine(dx hc (by omega) (by omega)).mono ?_;rintro e w'⟨rfl,rfl⟩)
  |(go_at_call 100;refine(nY hc hi x hF'.out).mono ?_;rintro e w1⟨rfl,⟨rw1,nx1,pv1,ls1,h1,hi1⟩,f1⟩;clear hc)
  |(go_at_call 73;refine(dp h1 (by omega) (by omega)).mono ?_;rintro e w'⟨rfl,rfl⟩)
  |fail)
 obtain⟨l,hl,hl'⟩:=hi1.get_out hk;have hrx:=hi1.row_none hx HX.out;rw[show(n:Int)+k=((n+k:Nat):Int)from rfl];refine(m6 h1 hi1 (l1:=l) (l2:=[]) (k:=k) (t:=n+k) (by simpa using hl) hx hrx rfl hF'.out).mono ?_;rintro e w2⟨rfl,⟨rw2,nx2,pv2,ls2,h2,hi2⟩,f2⟩;have hR:RR w2 b n m (cH L k x false) F:=⟨nb,lb,rw2,nx2,pv2,ls2,h2,by simpa[cH,hl']using hi2,HF.out⟩;have hf:Fr F w w2:=f1.trans f2 (λi q=>.inl q);clear hrx hl hl' hi2 h2 hi1 h1 f1 f2 hi;go_wp2
 go_ret
 exact⟨rfl,hR,hf⟩
def ixZ(L:List (List Nat))(x:Int):Option Nat:=if 0<=x then aG L x.toNat else none
def lT(L:List (List Nat))(x:Int):List (List Nat):=if 0<=x then bO L x.toNat else L
theorem dA(x:Nat):ixZ L x=aG L x:=by simp[ixZ]
theorem Fo(h:RR w b n m L F){x:Int}{k:Nat}(e:ixZ L x=some k):0<=x/\x<n/\k<m:=by
 obtain⟨nb,lb,rw,nx,pv,ls,hc,hi,hF⟩:=h.ex;unfold ixZ at e
 split at e
 .have:=hi.rowIx_row e
  omega
 .cases e
theorem fj(h:RR w b n m L F)(x:Int):
  Calls prog 112 #[.pointer (some ⟨b,0,none⟩),.int .i64 x] w λe w'=>e=.returned (.int .i64 (ixI (ixZ L x)))/\w=w':=by
 obtain⟨nb,lb,rw,nx,pv,ls,hc,hi,hF⟩:=h.ex;by_cases h0:0<=x
 .obtain⟨x,rfl⟩:=Int.eq_ofNat_of_zero_le h0
  rw[show ixZ L (x:Int)=aG L x from dA x];exact iX hc hi x
 .rw[show ixZ L x=none from if_neg h0]
  exact rL hc (by omega)
theorem jX(h:RR w b n m L F)(x:Int):
  Calls prog 100 #[.pointer (some ⟨b,0,none⟩),.int .i64 x] w λe w'=>e=.returned (.bool (ixZ L x).isSome)/\RR w' b n m (lT L x) F/\Fr F w w':=by
 obtain⟨nb,lb,rw,nx,pv,ls,hc,hi,hF⟩:=h.ex;have hF':∀i,i=nb\/i=lb->F i:=λi q=>(hF i).2 (.inr q)
 by_cases h0:0<=x
 .obtain⟨x,rfl⟩:=Int.eq_ofNat_of_zero_le h0
  rw[show ixZ L (x:Int)=aG L x from dA x];refine(nY hc hi x hF').mono ?_;rintro e w1⟨rfl,⟨rw1,nx1,pv1,ls1,h1,hi1⟩,f1⟩;exact⟨rfl,⟨nb,lb,rw1,nx1,pv1,ls1,h1,by simpa[lT]using hi1,hF⟩,f1⟩
 .rw[show ixZ L x=none from if_neg h0,show lT L x=L from if_neg h0]
  refine(qo x (rL hc (by omega))).mono ?_;rintro e w1⟨rfl,rfl⟩;exact⟨rfl,h,Fr.refl _ _⟩
theorem Aj{rw nx pv ls:Nat->Nat}(h:RInv n m rw nx pv ls L){x o k:Nat}(e:aG L o=some k)(hxo:¬x=o):
  ∃l1 l2,(bO L x)[k]?=some (l1++o::l2)/\(¬o∈l1)/\sw L x o=(bO L x).set k (l1++x::o::l2):=by
 have key:∃l1 l2,(bO L x)[k]?=some (l1++o::l2)/\¬o∈l1:=by
  cases ex:aG L x with
  |none=>
   obtain⟨l1,l2,hl⟩:=h.split e;exact⟨l1,l2,by simp[bO,ex,hl],(h.split_not hl).1⟩
  |some j=>
   obtain⟨a1,a2,ha⟩:=h.split ex;rw[h.outL_eq ha];by_cases ejk:k=j
   .subst ejk
    obtain⟨l,hl,hm⟩:=ew e;rw[ha]at hl;obtain rfl:=Option.some.inj hl
    have hm':o∈a1++a2:=by
     simp only[List.mem_append,List.mem_cons]at hm⊢;rcases hm with q|q|q
     .exact .inl q
     .exact(hxo q.symm).elim
     .exact .inr q
    have hnd:(a1++a2).Nodup:=by
     have:=h.nd k _ ha;rw[List.nodup_append]at this⊢;exact⟨this.1,(List.nodup_cons.1 this.2.1).2,λp hp q hq=>this.2.2 p hp q (List.mem_cons_of_mem _ hq)⟩
    obtain⟨l1,l2,hll⟩:=List.append_of_mem hm';refine⟨l1,l2,?_,?_⟩
    .rw[List.getElem?_set,if_pos rfl,if_pos (List.getElem?_eq_some_iff.1 ha).1,hll]
    .rw[hll,List.nodup_append]at hnd
     exact λq=>hnd.2.2 o q o (by simp) rfl
   .obtain⟨l1,l2,hl⟩:=h.split e
    exact⟨l1,l2,by rw[List.getElem?_set,if_neg (λq=>ejk q.symm)];exact hl,(h.split_not hl).1⟩
 obtain⟨l1,l2,h1,h2⟩:=key;exact⟨l1,l2,h1,h2,by simp[sw,e,h1,ve h2]⟩
theorem tL(h:RR w b n m L F)(x o k:Nat)(hx:x<n)(e:aG L o=some k)(hxo:¬x=o):
  Calls prog 263 #[.pointer (some ⟨b,0,none⟩),.int .i64 x,.int .i64 o] w λe w'=>e=.returned (.bool true)/\RR w' b n m (sw L x o) F/\Fr F w w':=by
 obtain⟨nb,lb,rw,nx,pv,ls,hc,hi,hF⟩:=h.ex;have hF':Hid (∀i,i=nb\/i=lb->F i):=λi q=>(hF i).2 (.inr q)
 have HF:Hid (∀i,F i↔i=b\/i=nb\/i=lb):=hF;have HX:=Hd (hi.rowIx_out x);have HB:=Hd (Aj hi e hxo);have HI:=iX hc hi o;rw[e]at HI;have HI':=Hd HI;have hne:((x:Int)==(o:Int))=false:=by simp;omega
 clear hF h e HI hxo;simp only[ixI]at HI';go_enter func263,ntmps263
 go_wp2_with(first
  |(go_at_call 99;refine(dx hc (by omega) (by omega)).mono ?_;rintro e w'⟨rfl,rfl⟩)
  |(go_at_call 112;refine HI'.out.mono ?_;rintro e w'⟨rfl,rfl⟩)
  |(go_at_call 100;refine(nY hc hi x hF'.out).mono ?_;rintro e w1⟨rfl,⟨rw1,nx1,pv1,ls1,h1,hi1⟩,f1⟩;clear hc)
  |fail)
 obtain⟨l1,l2,hl,_,hB⟩:=HB.out;have hrx:=hi1.row_none hx HX.out;refine(m6 h1 hi1 (l1:=l1) (l2:=o::l2) (k:=k) (t:=o) hl hx hrx rfl hF'.out).mono ?_;rintro e w2⟨rfl,⟨rw2,nx2,pv2,ls2,h2,hi2⟩,f2⟩;have hR:RR w2 b n m (sw L x o) F:=⟨nb,lb,rw2,nx2,pv2,ls2,h2,by rw[hB];exact hi2,HF.out⟩;have hf:Fr F w w2:=f1.trans f2 (λi q=>.inl q);clear hrx hl hB hi2 h2 hi1 h1 f1 f2 hi;go_wp2
 go_ret
 exact⟨rfl,hR,hf⟩
end
def bZ(L:List (List Nat))(k:Int):List Nat:=if 0<=k then L[k.toNat]?.getD []else[]
def iK(L:List (List Nat))(x:Int):Option Nat:=match ixZ L x with
 |none=>none
 |some k=>(L[k]?.getD [])[(L[k]?.getD []).idxOf x.toNat+1]?
theorem nF{l1 l2:List Nat}{x:Nat}(h:¬x∈l1):(l1++x::l2).idxOf x=l1.length:=by
 rw[List.idxOf_append,if_neg h];simp
theorem rg{n m:Nat}{rw nx pv ls:Nat->Nat}{L:List (List Nat)}(h:RInv n m rw nx pv ls L){k x:Nat}{l1 l2:List Nat}(hl:L[k]?=some (l1++x::l2)):iK L x=l2.head?:=by
 have e:=h.rowIx_of hl (x:=x) (by simp);have q:=(h.split_not hl).1;simp[iK,dA,e,hl,nF q,List.getElem?_append_right,List.head?_eq_getElem?]
section
variable{w:World}{b nb lb n m:Nat}{rw nx pv ls:Nat->Nat}
theorem RC.drewN(h:RC w b nb lb n m rw nx pv ls)(d:Nat):RC (w.drewN d) b nb lb n m rw nx pv ls:=
 ⟨h.hd.drewN d,h.nd.drewN d,h.ln.drewN d,h.d1,h.d2,h.d3,h.hn,h.hm⟩
theorem sh(h:RC w b nb lb n m rw nx pv ls)(k t:Nat)(r:Int)(hk:k<m)(ht:w.cell? ⟨nb,(n+k)*3+1,none⟩=some (.int .i64 t))(hr:Hid ((if t<n then(t:Int)else-1)=r)):
  Calls prog 173 #[.pointer (some ⟨b,0,none⟩),.int .i64 k] w λe w'=>e=.returned (.int .i64 r)/\∃d,w.drewN d=w':=by
 have c1:=h.c1;have hm:=h.hm;have hn:=h.hn;have ht':w.cell? ⟨nb,(n+k)*3+1,none⟩=some (.int .i64 t):=ht
 have HT:∀d,Calls prog 175 #[.pointer (some ⟨b,0,none⟩),.int .i64 t] (w.drewN d) λe w'=>e=.returned (.int .i64 r)/\w.drewN d=w':=by
  intro d;rw[<-hr.out];exact nE (h.drewN d)
 have HT':=Hd HT;have e1:((n:Int)+k).toNat=n+k:=by omega
 clear HT ht;go_enter func173,ntmps173
 go_wp2_with(go_at_call 98;refine(jt h (by omega) (by omega)).mono ?_;rintro e w'⟨rfl,rfl⟩)
 go_quiet ((first|(go_at_call 73;exact qs (dp (h.drewN _) (by omega) (by omega)))|(go_at_call 175;exact qs (HT'.out _))))
 go_wp2
 go_ret
 exact⟨rfl,_,rfl⟩
theorem xa(h:RC w b nb lb n m rw nx pv ls)(x t k:Nat)(r:Int)(hx:x<n)(ht:w.cell? ⟨nb,x*3+1,none⟩=some (.int .i64 t))(hr:Hid ((if t<n then(t:Int)else-1)=r))
  (HI:Hid (Calls prog 112 #[.pointer (some ⟨b,0,none⟩),.int .i64 x] w λe w'=>e=.returned (.int .i64 k)/\w=w')):
  Calls prog 174 #[.pointer (some ⟨b,0,none⟩),.int .i64 x] w λe w'=>e=.returned (.int .i64 r)/\w=w':=by
 have c1:=h.c1;have hm:=h.hm;have hn:=h.hn
 have HT:Hid (Calls prog 175 #[.pointer (some ⟨b,0,none⟩),.int .i64 t] w λe w'=>e=.returned (.int .i64 r)/\w=w'):=by
  unfold Hid;rw[<-hr.out];exact nE h
 go_enter func174,ntmps174
 go_wp2_with(first
  |(go_at_call 112;refine HI.out.mono ?_;rintro e w'⟨rfl,rfl⟩)
  |(go_at_call 175;refine HT.out.mono ?_;rintro e w'⟨rfl,rfl⟩))
 go_ret
 exact⟨rfl,rfl⟩
theorem wG(x:Int)
  (HI:Hid (Calls prog 112 #[.pointer (some ⟨b,0,none⟩),.int .i64 x] w λe w'=>e=.returned (.int .i64 (-1))/\w=w')):
  Calls prog 174 #[.pointer (some ⟨b,0,none⟩),.int .i64 x] w λe w'=>e=.returned (.int .i64 (-1))/\w=w':=by
 go_enter func174,ntmps174
 go_wp2_with(go_at_call 112;refine HI.out.mono ?_;rintro e w'⟨rfl,rfl⟩)
 go_ret
 exact⟨rfl,rfl⟩
theorem wm(h:RC w b nb lb n m rw nx pv ls)(k:Int)(hk:k<0\/(m:Int)<=k):
  Calls prog 173 #[.pointer (some ⟨b,0,none⟩),.int .i64 k] w λe w'=>e=.returned (.int .i64 (-1))/\w=w':=by
 have H1:=Hd (qv h hk);clear hk;go_enter func173,ntmps173
 go_wp2_with(go_at_call 98;refine H1.out.mono ?_;rintro e w'⟨rfl,rfl⟩)
 go_ret
 exact⟨rfl,rfl⟩
theorem DN(h:RC w b nb lb n m rw nx pv ls)(k:Int)(hk:k<0\/(m:Int)<=k):
  Calls prog 216 #[.pointer (some ⟨b,0,none⟩),.int .i64 k] w λe w'=>e=.returned (.int .i64 (0))/\w=w':=by
 have H1:=Hd (qv h hk);clear hk;go_enter func216,ntmps216
 go_wp2_with(go_at_call 98;refine H1.out.mono ?_;rintro e w'⟨rfl,rfl⟩)
 go_ret
 exact⟨rfl,rfl⟩
theorem CY(h:RC w b nb lb n m rw nx pv ls)(k:Nat)(hk:k<m):
  Calls prog 216 #[.pointer (some ⟨b,0,none⟩),.int .i64 k] w λe w'=>e=.returned (.int .i64 (ls k:Nat))/\w=w':=by
 have c2:=h.c2;have hm:=h.hm;have c3:=h.len hk;go_enter func216,ntmps216
 go_wp2_with(go_at_call 98;refine(jt h (by omega) (by omega)).mono ?_;rintro e w'⟨rfl,rfl⟩)
 go_ret
 exact⟨rfl,rfl⟩
end
section
variable{w:World}{b n m:Nat}{L:List (List Nat)}{F:Nat->Prop}
theorem lM{l:List Nat}{o:Option Nat}{n k:Nat}(ho:∀x,o=some x->x<n):(if o.getD (n+k)<n then((o.getD (n+k):Nat):Int)else-1)=ixI o:=by
 cases o with
 |none=>simp[ixI];omega
 |some x=>simp[ixI,ho x rfl]
theorem bi(h:RR w b n m L F)(k:Int):
  Calls prog 173 #[.pointer (some ⟨b,0,none⟩),.int .i64 k] w λe w'=>e=.returned (.int .i64 (ixI (bZ L k).head?))/\∃d,w.drewN d=w':=by
 obtain⟨nb,lb,rw,nx,pv,ls,hc,hi,hF⟩:=h.ex;by_cases hk:0<=k/\k<m
 .obtain⟨k,rfl⟩:=Int.eq_ofNat_of_zero_le hk.1
  have hk':k<m:=by omega
  obtain⟨l,hl,hl'⟩:=hi.get_out hk';rw[show bZ L (k:Int)=l from by simp[bZ,hl']];refine sh hc k (nx (n+k)) _ hk' (hc.next (by omega)) ?_;unfold Hid;rw[(hi.lk k l hl).first];exact lM (l:=l) (λx hx=>(hi.mem k l hl x (List.mem_of_mem_head? hx)).1)
 .have hl:=hi.len
  have e:bZ L k=[]:=by
   unfold bZ
   split
   .rw[List.getElem?_eq_none (by omega)];rfl
   .rfl
  rw[e];exact(wm hc k (by omega)).mono λe w' ⟨he,hw⟩=>⟨he,0,hw⟩
theorem dt(h:RR w b n m L F)(k:Int):
  Calls prog 216 #[.pointer (some ⟨b,0,none⟩),.int .i64 k] w λe w'=>e=.returned (.int .i64 ((bZ L k).length:Nat))/\w=w':=by
 obtain⟨nb,lb,rw,nx,pv,ls,hc,hi,hF⟩:=h.ex;by_cases hk:0<=k/\k<m
 .obtain⟨k,rfl⟩:=Int.eq_ofNat_of_zero_le hk.1
  have hk':k<m:=by omega
  obtain⟨l,hl,hl'⟩:=hi.get_out hk';rw[show bZ L (k:Int)=l from by simp[bZ,hl'],<-hi.lsz k l hl];exact CY hc k hk'
 .have hl:=hi.len
  have e:bZ L k=[]:=by
   unfold bZ
   split
   .rw[List.getElem?_eq_none (by omega)];rfl
   .rfl
  rw[e];exact DN hc k (by omega)
theorem ii(h:RR w b n m L F)(x:Int):
  Calls prog 174 #[.pointer (some ⟨b,0,none⟩),.int .i64 x] w λe w'=>e=.returned (.int .i64 (ixI (iK L x)))/\w=w':=by
 have HI:=fj h x;obtain⟨nb,lb,rw,nx,pv,ls,hc,hi,hF⟩:=h.ex
 cases e:ixZ L x with
 |none=>
  rw[e]at HI;rw[show iK L x=none from by simp[iK,e]];exact wG x HI
 |some k=>
  have hb:=Fo h e;obtain⟨x,rfl⟩:=Int.eq_ofNat_of_zero_le hb.1;rw[e]at HI;rw[show ixZ L (x:Int)=aG L x from dA x]at e;obtain⟨l1,l2,hl⟩:=hi.split e;rw[show iK L (x:Int)=l2.head? from rg hi hl];refine xa hc x (nx x) k _ (by omega) (hc.next (by omega)) ?_ HI;unfold Hid;rw[(hi.lk k _ hl).at.2];exact lM (l:=l2) (λy hy=>(hi.mem k _ hl y (by simp[List.mem_of_mem_head? hy])).1)
end
theorem DG:(prog.info? 3).map (λi=>(i.zero,i.size,i.bytes))=some (some (.int .i64 0),1,8):=by kernel_rfl
end
section
open Go.RowKit
section
variable{w:World}{b n m:Nat}{L:List (List Nat)}{F:Nat->Prop}
theorem dg(h:RR w b n m L F)(k:Int):(bZ L k).length<=n/\∀(j x:Nat),(bZ L k)[j]?=some x->iK L (x:Int)=(bZ L k)[j+1]?:=by
 obtain⟨nb,lb,rw,nx,pv,ls,hc,hi,hF⟩:=h.ex;by_cases hk:0<=k/\k<m
 .obtain⟨k,rfl⟩:=Int.eq_ofNat_of_zero_le hk.1
  have hk':k<m:=by omega
  obtain⟨l,hl,hl'⟩:=hi.get_out hk';have el:bZ L (k:Int)=l:=by simp[bZ,hl']
  rw[el];refine⟨?_,λj x hx=>?_⟩
  .have:=List.Nodup.length_le_of_subset (l₁:=l) (l₂:=List.range n) (hi.nd k _ hl) (λy hy=>List.mem_range.2 (hi.mem k _ hl y hy).1)
   simpa using this
  .obtain⟨hj,rfl⟩:=List.getElem?_eq_some_iff.1 hx
   have hsp:l=l.take j++l[j]::l.drop (j+1):=by simp
   have hl2:L[k]?=some (l.take j++l[j]::l.drop (j+1)):=by rw[<-hsp];exact hl
   rw[rg hi hl2];simp
 .have hl:=hi.len
  have e:bZ L k=[]:=by
   unfold bZ
   split
   .rw[List.getElem?_eq_none (by omega)];rfl
   .rfl
  rw[e];exact⟨by simp,λj x hx=>by simp at hx⟩
end
end
section
open Go.Proofs.Tryz Go.RowKit
theorem infoNode:(prog.info? 183).map (λi=>(i.zero,i.size,i.bytes))=some (some (.agg #[.int .i64 0,.int .i64 0,.int .i64 0]),3,24):=by kernel_rfl
theorem fJ{z:Array Value}{N i:Nat}(hi:i<N):(madeCells z N)[i]?=some z[i%z.size]!:=by
 unfold madeCells;rw[Array.getElem?_map,Array.getElem?_range,if_pos hi];rfl
def z0:Nat->Nat:=λ_=>0
def clR(n k:Nat):Nat->Nat:=λi=>if n<=i/\i<n+k then i-n+1 else 0
def clN(n k:Nat):Nat->Nat:=λi=>if n<=i/\i<n+k then i else 0
theorem Aw(n k:Nat):upd (clR n k) (n+k) (k+1)=clR n (k+1):=by
 funext i;unfold upd clR
 split
 .subst i;rw[if_pos (by omega)];omega
 .by_cases h:n<=i/\i<n+k
  .rw[if_pos h,if_pos (by omega)]
  .rw[if_neg h,if_neg (by omega)]
theorem Bd(n k:Nat):upd (clN n k) (n+k) (n+k)=clN n (k+1):=by
 funext i;unfold upd clN
 split
 .subst i;rw[if_pos (by omega)]
 .by_cases h:n<=i/\i<n+k
  .rw[if_pos h,if_pos (by omega)]
  .rw[if_neg h,if_neg (by omega)]
theorem qj(n:Nat):clR n 0=z0:=by funext i;unfold clR z0;rw[if_neg (by omega)]
theorem qm(n:Nat):clN n 0=z0:=by funext i;unfold clN z0;rw[if_neg (by omega)]
theorem yv(n m:Nat):RInv n m (clR n m) (clN n m) (clN n m) z0 (List.replicate m []):=by
 have g:∀(k:Nat) (l:List Nat),(List.replicate m ([]:List Nat))[k]?=some l->k<m/\l=[]:=by
  intro k l h;rw[List.getElem?_replicate]at h
  split at h
  .exact⟨by assumption,(Option.some.inj h).symm⟩
  .cases h
 refine⟨by simp,?_,?_,?_,?_,?_,?_⟩
 .intro k l h;obtain⟨hk,rfl⟩:=g k l h
  exact⟨by unfold clN;rw[if_pos (by omega)],by unfold clN;rw[if_pos (by omega)]⟩
 .intro k l h;obtain⟨hk,rfl⟩:=g k l h;rfl
 .intro k l h;obtain⟨hk,rfl⟩:=g k l h;simp
 .intro k l h x hx;obtain⟨hk,rfl⟩:=g k l h;simp at hx
 .intro k hk;unfold clR;rw[if_pos (by omega)];omega
 .intro x hx;left;unfold clR;rw[if_neg (by omega)]
def tw(w0:World)(b nb lb n m:Nat)(i:Value)(wr:World):Prop:=
 ∃k:Nat,k<=m/\i=.int .i64 k/\RC wr b nb lb n m (clR n k) (clN n k) (clN n k) z0/\Fr NoF w0 wr
theorem uY{w w':World}{b nb lb n m:Nat}(hn:n<=200000)(hm:m<=16)(h1:w'.heap[b]?=some (.cells #[.int .i64 n,.slice (some ⟨nb,0,none⟩) (n+m) (n+m),.slice (some ⟨lb,0,none⟩) m m] 180 (0,0)))
  (h2:w'.heap[nb]?=some (.cells (madeCells #[.int .i64 0,.int .i64 0,.int .i64 0] ((n+m)*3)) 183 (0,0)))(h3:w'.heap[lb]?=some (.cells (madeCells #[.int .i64 0] m) 3 (0,0)))(d1:¬b=nb)(d2:¬b=lb)(d3:¬nb=lb):
  RC w' b nb lb n m z0 z0 z0 z0:=by
 refine⟨⟨_,_,h1,rfl,?_⟩,⟨_,_,h2,by simp[size_madeCells],?_⟩,⟨_,_,h3,by simp[size_madeCells],?_⟩,d1,d2,d3,hn,hm⟩
 .intro i hi
  match i,hi with
  |0,_=>rfl
  |1,_=>rfl
  |2,_=>rfl
 .intro i hi
  rw[fJ hi];have:i%3<3:=Nat.mod_lt _ (by decide)
  have e:∀j,j<3->(#[Value.int .i64 0,.int .i64 0,.int .i64 0]:Array Value)[j]! =.int .i64 0:=by
   intro j hj
   match j,hj with
   |0,_=>rfl
   |1,_=>rfl
   |2,_=>rfl
  rw[show(#[Value.int .i64 0,.int .i64 0,.int .i64 0]:Array Value).size=3 from rfl,e _ this];simp[ndF,z0]
 .intro i hi
  rw[fJ hi];rw[show(#[Value.int .i64 0]:Array Value).size=1 from rfl,Nat.mod_one];rfl
theorem h0(w:World)(o:Obj):(w.alloc o).heap[w.heap.size]?=some o:=heap_alloc_new w o _ rfl
theorem hstep(w:World)(o o':Obj)(k:Nat)(h:w.heap[k]?=some o'):(w.alloc o).heap[k]?=some o':=by
 rw[Below.heap_alloc w o k ?_];exact h;rcases Nat.lt_or_ge k w.heap.size with h'|h'
 .exact h'
 .simp[Array.getElem?_eq_none h']at h
abbrev dX(n m:Nat):Obj:=.cells (madeCells #[.int .i64 0,.int .i64 0,.int .i64 0] ((n+m)*3)) 183
abbrev iW(m:Nat):Obj:=.cells (madeCells #[.int .i64 0] m) 3
abbrev nk(n m nb lb:Nat):Obj:=.cells #[.int .i64 n,.slice (some ⟨nb,0,none⟩) (n+m) (n+m),.slice (some ⟨lb,0,none⟩) m m] 180
theorem E4(w:World)(n m:Nat)(hn:n<=200000)(hm:m<=16):RC (((w.alloc (dX n m)).alloc (iW m)).alloc (nk n m w.heap.size (w.heap.size+1))).drew (w.heap.size+1+1) w.heap.size (w.heap.size+1) n m z0 z0 z0 z0:=by
 have e1:(w.alloc (dX n m)).heap.size=w.heap.size+1:=by simp
 have e2:((w.alloc (dX n m)).alloc (iW m)).heap.size=w.heap.size+2:=by simp
 refine uY hn hm (w:=w) ?_ ?_ ?_ (by omega) (by omega) (by omega)
 .exact heap_alloc_new _ _ _ e2.symm
 .exact hstep _ _ _ _ (hstep _ _ _ _ (h0 _ _))
 .exact hstep _ _ _ _ (heap_alloc_new _ _ _ e1.symm)
theorem Ej(w:World)(n m:Nat)(hn:n<=200000)(hm:m<=16):RC (((w.alloc (iW m)).alloc (dX n m)).alloc (nk n m (w.heap.size+1) w.heap.size)).drew (w.heap.size+1+1) (w.heap.size+1) w.heap.size n m z0 z0 z0 z0:=by
 have e1:(w.alloc (iW m)).heap.size=w.heap.size+1:=by simp
 have e2:((w.alloc (iW m)).alloc (dX n m)).heap.size=w.heap.size+2:=by simp
 refine uY hn hm (w:=w) ?_ ?_ ?_ (by omega) (by omega) (by omega)
 .exact heap_alloc_new _ _ _ e2.symm
 .exact hstep _ _ _ _ (heap_alloc_new _ _ _ e1.symm)
 .exact hstep _ _ _ _ (hstep _ _ _ _ (h0 _ _))
theorem jG{w0 wr:World}{b nb lb n m k:Nat}(hk:k<m)(h:RC wr b nb lb n m (clR n k) (clN n k) (clN n k) z0)(f:Fr NoF w0 wr)(hb:w0.heap.size<=nb):
  tw w0 b nb lb n m (.int .i64 ((k:Int)+1)) (((wr.setCell ⟨nb,(n+k)*3,none⟩ (.int .i64 ((k:Int)+1))).setCell ⟨nb,(n+k)*3+1,none⟩ (.int .i64 ((n:Int)+k))).setCell ⟨nb,(n+k)*3+2,none⟩ (.int .i64 ((n:Int)+k))):=by
 refine⟨k+1,hk,rfl,?_,((f.setCell (.inr hb) _).setCell (.inr hb) _).setCell (.inr hb) _⟩;have:=((h.setRow (n+k) (k+1) (z:=(k:Int)+1) (by omega)).setNext (n+k) (n+k) (z:=(n:Int)+k) (by omega)).setPrev (n+k) (n+k) (z:=(n:Int)+k) (by omega);rw[Aw,Bd]at this;exact this
theorem gx(n m:Nat)(w:World)(hn:n<=200000)(h1:1<=m)(hm:m<=16):
  Calls prog 47 #[.int .i64 n,.int .i64 m] w λe w'=>∃b F,e=.returned (.tuple #[.pointer (some ⟨b,0,none⟩),.int .i64 0])/\RR w' b n m (List.replicate m []) F/\(∀i,F i->w.heap.size<=i)/\Fr NoF w w':=by
 obtain⟨i0,hi,hz0,hz1,hz2⟩:=info_parts DG;obtain⟨i1,hj,hy0,hy1,hy2⟩:=info_parts infoNode
 have mk1:∀w:World,(Instr.makeSlice 178 (.int .i64 ((n:Int)+m)) (.int .i64 ((n:Int)+m))).run prog w=
   .ok (.slice (some ⟨w.heap.size,0,none⟩) (n+m) (n+m)) (w.alloc (.cells (madeCells #[.int .i64 0,.int .i64 0,.int .i64 0] ((n+m)*3)) 183)):=by
  intro w;have:=run_make (P:=prog) w 178 183 i1 _ underlying178 hj hy0 .i64 .i64 ((n:Int)+m) ((n:Int)+m) (by omega) (Int.le_refl _) (by rw[hy2];omega) (by omega);rw[show((n:Int)+m).toNat=n+m from by omega,hy1]at this;exact this
 have mk2:∀w:World,(Instr.makeSlice 157 (.int .i64 (m:Int)) (.int .i64 (m:Int))).run prog w=
   .ok (.slice (some ⟨w.heap.size,0,none⟩) m m) (w.alloc (.cells (madeCells #[.int .i64 0] m) 3)):=by
  intro w;have:=run_make (P:=prog) w 157 3 i0 _ underlying157 hi hz0 .i64 .i64 (m:Int) (m:Int) (by omega) (Int.le_refl _) (by rw[hz2];omega) (by omega);rw[show((m:Int)).toNat=m from by omega,hz1,Nat.mul_one]at this;exact this
 have d1:decide ((n:Int)<0)=false:=by simp
 have d2:decide ((200000:Int)<n)=false:=by simp;omega
 have d3:decide ((m:Int)<1)=false:=by simp;omega
 have d4:decide ((16:Int)<m)=false:=by simp;omega
 clear hi hz0 hz1 hz2 hj hy0 hy1 hy2;go_enter func47,ntmps47;go_wp2
 go_region
 .go_wp2
  have st:=E4 w n m hn hm;have hf:Fr NoF w (((w.alloc (dX n m)).alloc (iW m)).alloc (nk n m w.heap.size (w.heap.size+1))).drew:=((((Fr.refl NoF w).alloc _).alloc _).alloc _).drew;generalize(((w.alloc (dX n m)).alloc (iW m)).alloc (nk n m w.heap.size (w.heap.size+1))).drew=wz at st hf;obtain⟨b,hb⟩:∃b,b=w.heap.size+1+1:=⟨_,rfl⟩;obtain⟨nb,hnb⟩:∃b,b=w.heap.size:=⟨_,rfl⟩;obtain⟨lb,hlb⟩:∃b,b=w.heap.size+1:=⟨_,rfl⟩;rw[<-hb,<-hlb,<-hnb]at st;rw[<-hb,<-hlb,<-hnb];have hB:Hid (w.heap.size<=b/\w.heap.size<=nb/\w.heap.size<=lb):=⟨by omega,by omega,by omega⟩;clear hb hnb hlb
  go_loopw [33] (tw w b nb lb n m) (λi _=>m-(intOf i).toNat)
  case atStart=>exact⟨0,Nat.zero_le _,rfl,by rw[qj,qm];exact st,hf⟩
  case round=>
   obtain⟨k,hk,rfl,hc,hf'⟩:=hrel;clear st hf;by_cases hlt:k<m
   .have c1:=hc.c1
    have hnz:=hc.nd.lt;have hfz:=hc.nd.frozen;have r0:=hc.row (i:=n+k) (by omega);have r1:=hc.next (i:=n+k) (by omega);have r2:=hc.prev (i:=n+k) (by omega);have HS:=Hd (jG (w0:=w) hlt hc hf' hB.out.2.1);have HC:Hid (Calls prog 73 #[.pointer (some ⟨b,0,none⟩),.int .i64 k] wr λe w'=>e=.returned (.int .i64 (n+k))/\wr=w'):=dp hc (by omega) (by omega);have ht:((n:Int)+k).toNat=n+k:=by omega
    go_wp2_with(go_at_call 73;refine HC.out.mono ?_;rintro e w'⟨rfl,rfl⟩)
    go_roundw
    case rel=>exact HS.out
    case measure=>simp[intOf];omega
   .obtain rfl:k=m:=by omega
    go_wp2
    go_ret2
    exact⟨b,λi=>i=b\/i=nb\/i=lb,rfl,⟨nb,lb,_,_,_,_,hc,yv n k,λ_=>Iff.rfl⟩,λi hi=>by have:=hB.out;omega,hf'⟩
 .go_wp2
  have st:=Ej w n m hn hm;have hf:Fr NoF w (((w.alloc (iW m)).alloc (dX n m)).alloc (nk n m (w.heap.size+1) w.heap.size)).drew:=((((Fr.refl NoF w).alloc _).alloc _).alloc _).drew;generalize(((w.alloc (iW m)).alloc (dX n m)).alloc (nk n m (w.heap.size+1) w.heap.size)).drew=wz at st hf;obtain⟨b,hb⟩:∃b,b=w.heap.size+1+1:=⟨_,rfl⟩;obtain⟨nb,hnb⟩:∃b,b=w.heap.size+1:=⟨_,rfl⟩;obtain⟨lb,hlb⟩:∃b,b=w.heap.size:=⟨_,rfl⟩;rw[<-hb,<-hnb,<-hlb]at st;rw[<-hb,<-hnb,<-hlb];have hB:Hid (w.heap.size<=b/\w.heap.size<=nb/\w.heap.size<=lb):=⟨by omega,by omega,by omega⟩;clear hb hnb hlb
  go_loopw [33] (tw w b nb lb n m) (λi _=>m-(intOf i).toNat)
  case atStart=>exact⟨0,Nat.zero_le _,rfl,by rw[qj,qm];exact st,hf⟩
  case round=>
   obtain⟨k,hk,rfl,hc,hf'⟩:=hrel;clear st hf;by_cases hlt:k<m
   .have c1:=hc.c1
    have hnz:=hc.nd.lt;have hfz:=hc.nd.frozen;have r0:=hc.row (i:=n+k) (by omega);have r1:=hc.next (i:=n+k) (by omega);have r2:=hc.prev (i:=n+k) (by omega);have HS:=Hd (jG (w0:=w) hlt hc hf' hB.out.2.1);have HC:Hid (Calls prog 73 #[.pointer (some ⟨b,0,none⟩),.int .i64 k] wr λe w'=>e=.returned (.int .i64 (n+k))/\wr=w'):=dp hc (by omega) (by omega);have ht:((n:Int)+k).toNat=n+k:=by omega
    go_wp2_with(go_at_call 73;refine HC.out.mono ?_;rintro e w'⟨rfl,rfl⟩)
    go_roundw
    case rel=>exact HS.out
    case measure=>simp[intOf];omega
   .obtain rfl:k=m:=by omega
    go_wp2
    go_ret2
    exact⟨b,λi=>i=b\/i=nb\/i=lb,rfl,⟨nb,lb,_,_,_,_,hc,yv n k,λ_=>Iff.rfl⟩,λi hi=>by have:=hB.out;omega,hf'⟩
end
section
open Go.RowKit
def cntL(l:List Nat)(ev:Nat->Bool):Nat:=(l.filter ev).length
theorem ry{l:List Nat}{x:Nat}(h:¬x∈l):(l.filter λy=>!decide (y=x))=l:=by
 rw[List.filter_eq_self];intro a ha;have:¬a=x:=λe=>h (e▸ha)
 simp[this]
def aP(l:List Nat)(f:Nat):List Nat:=l.filter λy=>!decide (y=f)
def eS(l:List Nat)(f:Nat):List Nat:=aP l f++[f]
theorem fx{l:List Nat}{f x:Nat}:x∈aP l f↔x∈l/\¬x=f:=by simp[aP]
theorem kr{l:List Nat}{f x:Nat}:x∈eS l f↔x∈l\/x=f:=by
 simp only[eS,List.mem_append,fx,List.mem_singleton];by_cases e:x=f<;>simp[e]
theorem dU{l:List Nat}(hn:l.Nodup)(ev:Nat->Bool)(f:Nat):cntL (aP l f) ev+(if f∈l/\ev f=true then 1 else 0)=cntL l ev:=by
 induction l with
 |nil=>simp[aP,cntL]
 |cons a l ih=>
  have hn':=List.nodup_cons.1 hn;have ih:=ih hn'.2;by_cases e:a=f
  .subst e
   have e2:aP (a::l) a=l:=by
    have:aP (a::l) a=aP l a:=by simp[aP]
    rw[this];exact ry hn'.1
   rw[e2];by_cases h:ev a=true<;>simp[cntL,h]
  .have e2:aP (a::l) f=a::aP l f:=by simp[aP,e]
   rw[e2];have e3:(f∈a::l/\ev f=true)↔(f∈l/\ev f=true):=by simp[show¬f=a from λq=>e q.symm]
   have e4:∀l',cntL (a::l') ev=cntL l' ev+(if ev a=true then 1 else 0):=by
    intro l';by_cases h:ev a=true<;>simp[cntL,h]
   rw[e4,e4];simp only[e3];omega
theorem bE(l l':List Nat)(ev:Nat->Bool):cntL (l++l') ev=cntL l ev+cntL l' ev:=by simp[cntL]
theorem lh{l:List Nat}(hn:l.Nodup)(ev:Nat->Bool)(f:Nat)(ho:ev f=true->f∈l):cntL (eS l f) ev=cntL l ev:=by
 have:=dU hn ev f;rw[eS,bE];by_cases h:ev f=true
 .have hm:=ho h
  rw[if_pos ⟨hm,h⟩]at this;rw[<-this];simp[cntL,h]
 .rw[if_neg (λq=>h q.2)]at this
  rw[<-this];simp[cntL,h]
theorem pF{l:List Nat}(ev:Nat->Bool)(f:Nat)(v:Bool)(h:¬f∈l):cntL l (upd ev f v)=cntL l ev:=by
 unfold cntL
 congr 1
 apply List.filter_congr;intro x hx;rw[aa];intro e;exact h (e▸hx)
theorem pm{l:List Nat}(hn:l.Nodup)(ev:Nat->Bool)(f:Nat)(v:Bool)(h:f∈l):cntL l (upd ev f v)+(if ev f=true then 1 else 0)=cntL l ev+(if v=true then 1 else 0):=by
 have h1:=dU hn ev f;have h2:=dU hn (upd ev f v) f;rw[pF _ _ _ (by simp[fx])]at h2;simp only[upd_same,h,true_and]at h1 h2;omega
theorem ju(l:List Nat)(ev:Nat->Bool):cntL l ev<=l.length:=List.length_filter_le _ _
end
end Go.Proofs.YtoenclhimbpfeaaGreatDoor
