/- Part 18. -/
import Derived.Test.YtoenclhimbpfeaaGreatDoorW17
namespace Go.Proofs.YtoenclhimbpfeaaGreatDoor
set_option linter.all false
set_option maxHeartbeats 16000000
set_option maxRecDepth 100000
section
open Go.Maps Go.Proofs.Tryz Go.RowKit
section
variable{w w':World}{b n:Nat}{A:TA}{t:T7}{k1 k2 sp:List Nat}{gp:Nat->Nat}
theorem dF(h:ck w b n A t w'){f:Nat}(hf:f<n):Calls prog 222 #[.pointer (some ⟨b,0,none⟩),.int .i64 f] w' λe w''=>e=.returned (.tuple #[])/\ck w b n A (t.rem f) w'':=by
 obtain⟨⟨k1,k2,sp,gp,h1⟩,h2⟩:=h;exact(mS h1 f hf).mono λe w'' ⟨he,q1,q2⟩=>⟨he,⟨_,_,_,_,q1⟩,h2.trans q2 (λ_ q=>.inl q)⟩
theorem my(h:AC w b n A t k1 k2 sp gp)(hi:TI7 t){id:Nat}(hu:aK id){f:Nat}(hv:t.goes id=some f):Calls prog 225 #[.pointer (some ⟨b,0,none⟩),.int .u32 id] w λe w'=>e=.returned (.tuple #[.int .i64 f,.bool true])/\ck w b n A (t.gone n id f) w':=by
 have hm:=m7 hv;have hfn:f<n:=hm.elim (h.lists.2.1 f) (h.lists.2.2.1 f);have hn:=h.hn;have hb:=h.hb
 have hcnt:¬cntL (t.nw++t.mn) t.ev=0:=λq=>by
  have:=(kA (c:=sideN t.b1 t.b2 id)).2 q;rw[show t.goesC (sideN t.b1 t.b2 id)=some f from hv]at this
  cases this
 have hcl:=ju (t.nw++t.mn) t.ev;have hln:=h.lists.2.2.2.2;have hln0:t.nw.length<=n:=by rw[List.length_append]at hln;omega
 have HZ:=Hd (uF h);have HSD:=j5 h.gg h.gH hu;have HGO:=CK h (sideN t.b1 t.b2 id);rw[show t.goesC (sideN t.b1 t.b2 id)=some f from hv,show ixI (some f)=(f:Int)from rfl]at HGO
 obtain⟨kk,hkk,hk2,hkp⟩:∃kk:Nat,(if f∈t.nw then(0:Int)else if f∈t.mn then 1 else-1)=(kk:Int)/\kk<2/\(t.put f)=((if kk=0 then t.b1++[t.page f]else t.b1),(if kk=0 then t.b2 else t.b2++[t.page f])):=by
  by_cases q:f∈t.nw
  .exact⟨0,by rw[if_pos q];rfl,by omega,by unfold T7.put;rw[if_pos q,if_pos q];rfl⟩
  .exact⟨1,by rw[if_neg q,if_pos (hm.resolve_left q)];rfl,by omega,by unfold T7.put;rw[if_neg q,if_neg q];rfl⟩
 have HI:Hid (∀w',Fr NoF w w'->Calls prog 112 #[.pointer (some ⟨A.rb,0,none⟩),.int .i64 f] w' λe w''=>e=.returned (.int .i64 (kk:Int))/\w'=w''):=by
  intro w' q;have:=fj (h.rr.fr q (λ_ _ q=>q)) f;rw[ix2,hkk]at this;exact this
 have L0:Hid (∀d,Calls prog 216 #[.pointer (some ⟨A.rb,0,none⟩),.int .i64 0] (w.drewN d) λe w'=>e=.returned (.int .i64 (t.nw.length:Nat))/\w.drewN d=w'):=λd=>dt (h.rr.fr ((Fr.refl NoF w).drewN d) (λ_ _ q=>q)) 0
 obtain⟨u1,u2⟩:=hi.u f hm
 have hplen:(t.put f).1.length+(t.put f).2.length=t.b1.length+t.b2.length+1:=by
  unfold T7.put;by_cases q:f∈t.nw
  .simp only[if_pos q,List.length_append,List.length_singleton];omega
  .simp only[if_neg q,List.length_append,List.length_singleton];omega
 have HREM:Hid (∀w',Fr NoF w w'->Calls prog 232 #[.pointer (some ⟨b,5,none⟩),.int .i64 kk,.int .u32 (t.page f:Nat)] w' λe w''=>e=.returned (.tuple #[])/\cQ w A.gr A.gpb A.mb (n+1) (t.put f).1 (t.put f).2 A.FG w''):=by
  intro w' q;have h1:=h.fr0 q;have:=pJ h1.gg h1.gH u1 u2 kk hk2 (by omega);rw[hkp];exact this.mono λe w'' ⟨he,hr⟩=>⟨he,hr.trans0 q⟩
 have HHD:Hid (∀w2,Fr (FGm A.FG A.gpb A.mb) w w2->w2.cell? ⟨b,2,none⟩=some (.slice (some ⟨A.pb,0,none⟩) n n)/\b<w2.heap.size/\GH w2 b A.gr A.gpb A.mb (n+1) A.FG):=by
  intro w2 f2;obtain⟨n1,n2,n3,n4,n5,n6,n7,n8,n9,n10⟩:=h.lb.ne;have hd2:=h.hd.fr f2 n7;exact⟨hd2.cell (i:=2) (by omega),hd2.lt,h.gH.fr f2 n7⟩
 have c1:w.cell? ⟨b,1,none⟩=some (.pointer (some ⟨A.rb,0,none⟩)):=h.c 1 (by omega);have c2:w.cell? ⟨b,2,none⟩=some (.slice (some ⟨A.pb,0,none⟩) n n):=h.c 2 (by omega);have cp:=h.cp hfn;have lb:=h.hd.lt;have HKEEP:Hid (∀w2,cQ w A.gr A.gpb A.mb (n+1) (bnd n (t.put f).1 (t.put f).2).1 (bnd n (t.put f).1 (t.put f).2).2 A.FG w2->ck w b n A (t.keep n f) w2):=λw2 hr=>h.res (BX (by omega)) hr
 have HRM0:Hid (∀w',Fr NoF w w'->Calls prog 222 #[.pointer (some ⟨b,0,none⟩),.int .i64 f] w' λe w''=>e=.returned (.tuple #[])/\ck w b n A (t.rem f) w''):=λw' q=>dF ⟨⟨_,_,_,_,h.fr0 q⟩,q.mono (λ_ q=>q.elim)⟩ hfn
 have HGN:Hid (t.gone n id f=(if 0<=sideN t.b1 t.b2 id\/t.nw.length<n then t.keep n f else t).rem f):=rfl;have hpl:(t.put f).1.length+(t.put f).2.length<=n+1:=by omega
 have HPL:=Hd hpl;have hz0:cntL (t.nw++t.mn) t.ev<=65535:=by omega
 generalize cntL (t.nw++t.mn) t.ev=z at*;have hcnt2:((z:Int)==0)=false:=by simp;omega
 have hz1:¬(z:Int)=0:=by omega
 rw[HGN.out];clear HGN h hi hm hv hkk hkp hplen hpl u1 u2 hk2;generalize sideN t.b1 t.b2 id=c at*;generalize t.page f=x at*;generalize t.put f=pt at*;generalize t.nw.length=L at*;by_cases hc:0<=c
 .rw[if_pos (.inl hc)]
  have HSD':=Hd HSD;have HGO':=Hd HGO;clear HSD HGO;go_enter func225,ntmps225
  go_wp2_with(first
   |(go_at_call 224;refine HZ.out.mono ?_;rintro e w'⟨rfl,rfl⟩)
   |(go_at_call 229;refine HSD'.out.mono ?_;rintro e w'⟨rfl,rfl⟩)
   |(go_at_call 231;refine HGO'.out.mono ?_;rintro e w'⟨rfl,d,rfl⟩))
  go_quiet (fail)
  go_wp2_with fail
  go_region_with (first
   |(go_at_call 112;(with_reducible refine(HI.out _ (by repeat(first|exact Fr.refl NoF _|apply Fr.drew|apply Fr.drewN))).mono ?_);rintro e w'⟨rfl,rfl⟩)
   |(go_at_call 232;(with_reducible refine(HREM.out _ (by repeat(first|exact Fr.refl NoF _|apply Fr.drew|apply Fr.drewN))).mono ?_);rintro e w2⟨rfl,h2⟩;have H2:=Hd h2;clear h2))
  all_goals
   obtain⟨j1,j2,js,jp,hga,hf2⟩:=H2.out;obtain⟨e2,lb2,hgh⟩:=HHD.out w2 hf2
   have HB:Hid (∀w',Fr NoF w2 w'->Calls prog 233 #[.pointer (some ⟨b,5,none⟩),.int .i64 n] w' λe w''=>e=.returned (.tuple #[])/\ck w b n A (t.keep n f) w''):=by
    intro w' q;refine(qy (hga.fr0 q) (hgh.fr q (λq=>q)) n (by omega) HPL.out).mono λe w'' ⟨he,r1,r2,rs,rp,g1,g2⟩=>⟨he,HKEEP.out w'' ⟨r1,r2,rs,rp,g1,(hf2.trans q (λ_ q=>q.elim)).trans g2 (λ_ q=>.inl q)⟩⟩
   clear hga hf2 hgh
   go_wp2_with fail
   go_region_with (go_at_call 233;(with_reducible refine(HB.out _ (by repeat(first|exact Fr.refl NoF _|apply Fr.drew|apply Fr.drewN))).mono ?_);rintro e w3⟨rfl,h3⟩;have H3:=Hd h3;clear h3)
   all_goals
    have HR:=Hd (dF H3.out hfn)
    go_wp2_with fail
    refine HR.out.mono ?_;rintro e w4⟨rfl,h4⟩;have K:=Hd h4;clear h4 HR;go_wp2;go_returns;exact⟨rfl,K.out⟩
 .have hc':c<0:=by omega
  by_cases hL:L<n
  .rw[if_pos (.inr hL)]
   have hL':(L:Int)<(n:Int):=by omega
   clear hL hc;have HSD':=Hd HSD;have HGO':=Hd HGO;clear HSD HGO;go_enter func225,ntmps225
   go_wp2_with(first
    |(go_at_call 224;refine HZ.out.mono ?_;rintro e w'⟨rfl,rfl⟩)
    |(go_at_call 229;refine HSD'.out.mono ?_;rintro e w'⟨rfl,rfl⟩)
    |(go_at_call 231;refine HGO'.out.mono ?_;rintro e w'⟨rfl,d,rfl⟩))
   go_quiet ((first|(go_at_call 216;with_reducible exact qa (L0.out _))|fail))
   go_wp2_with fail
   go_region_with (first
    |(go_at_call 112;(with_reducible refine(HI.out _ (by repeat(first|exact Fr.refl NoF _|apply Fr.drew|apply Fr.drewN))).mono ?_);rintro e w'⟨rfl,rfl⟩)
    |(go_at_call 232;(with_reducible refine(HREM.out _ (by repeat(first|exact Fr.refl NoF _|apply Fr.drew|apply Fr.drewN))).mono ?_);rintro e w2⟨rfl,h2⟩;have H2:=Hd h2;clear h2))
   all_goals
    obtain⟨j1,j2,js,jp,hga,hf2⟩:=H2.out;obtain⟨e2,lb2,hgh⟩:=HHD.out w2 hf2
    have HB:Hid (∀w',Fr NoF w2 w'->Calls prog 233 #[.pointer (some ⟨b,5,none⟩),.int .i64 n] w' λe w''=>e=.returned (.tuple #[])/\ck w b n A (t.keep n f) w''):=by
     intro w' q;refine(qy (hga.fr0 q) (hgh.fr q (λq=>q)) n (by omega) HPL.out).mono λe w'' ⟨he,r1,r2,rs,rp,g1,g2⟩=>⟨he,HKEEP.out w'' ⟨r1,r2,rs,rp,g1,(hf2.trans q (λ_ q=>q.elim)).trans g2 (λ_ q=>.inl q)⟩⟩
    clear hga hf2 hgh
    go_wp2_with fail
    go_region_with (go_at_call 233;(with_reducible refine(HB.out _ (by repeat(first|exact Fr.refl NoF _|apply Fr.drew|apply Fr.drewN))).mono ?_);rintro e w3⟨rfl,h3⟩;have H3:=Hd h3;clear h3)
    all_goals
     have HR:=Hd (dF H3.out hfn)
     go_wp2_with fail
     refine HR.out.mono ?_;rintro e w4⟨rfl,h4⟩;have K:=Hd h4;clear h4 HR;go_wp2;go_returns;exact⟨rfl,K.out⟩
  .rw[if_neg (λq=>q.elim hc hL)]
   have hL':(n:Int)<=(L:Int):=by omega
   clear hL hc;have HSD':=Hd HSD;have HGO':=Hd HGO;clear HSD HGO;go_enter func225,ntmps225
   go_wp2_with(first
    |(go_at_call 224;refine HZ.out.mono ?_;rintro e w'⟨rfl,rfl⟩)
    |(go_at_call 229;refine HSD'.out.mono ?_;rintro e w'⟨rfl,rfl⟩)
    |(go_at_call 231;refine HGO'.out.mono ?_;rintro e w'⟨rfl,d,rfl⟩))
   go_quiet ((first|(go_at_call 216;with_reducible exact qa (L0.out _))|fail))
   go_wp2_with fail
   refine(HRM0.out _ (by repeat(first|exact Fr.refl NoF _|apply Fr.drew|apply Fr.drewN))).mono ?_;rintro e w2⟨rfl,h2⟩;have K:=Hd h2;clear h2;go_wp2;go_returns;exact⟨rfl,K.out⟩
end
end
section
open Go.Maps Go.RowKit
theorem dO{t:T7}{f x:Nat}(h:x∈(t.rem f).nw\/x∈(t.rem f).mn):x∈t.nw\/x∈t.mn:=by
 unfold T7.rem at h
 split at h
 .exact h.imp (λq=>(List.mem_filter.1 q).1) (λq=>(List.mem_filter.1 q).1)
 .exact h
theorem BO{t:T7}{f x:Nat}(hf:f∈t.nw\/f∈t.mn)(h:x∈(t.rem f).nw\/x∈(t.rem f).mn):¬x=f:=by
 rintro rfl;unfold T7.rem at h;rw[if_pos hf]at h;simp[ac]at h
theorem mD(t:T7)(f:Nat):(t.rem f).page=t.page/\(t.rem f).b1=t.b1/\(t.rem f).b2=t.b2/\(t.rem f).goal=t.goal:=by unfold T7.rem;split<;>exact⟨rfl,rfl,rfl,rfl⟩
theorem TI7.sub{t:T7}(h:TI7 t){b1 b2:List Nat}(g:Nat)(hs:∀x∈b1++b2,x∈t.b1++t.b2):TI7 ⟨t.nw,t.mn,t.page,t.ev,b1,b2,g⟩:=
 ⟨λf hf=>⟨(h.u f hf).1,λq=>(h.u f hf).2 (hs _ q)⟩,h.ij⟩
theorem gi{l:List Nat}{x:Nat}(h:x∈l.drop 1):x∈l:=List.mem_of_mem_drop h
theorem TI7.miss{t:T7}(h:TI7 t)(n id:Nat):TI7 (t.miss n id):=by
 unfold T7.miss
 split
 .exact h.sub _ (λx q=>q)
 .split
  .exact h.sub _ (λx q=>q)
  .split
   .exact h.sub _ (λx q=>(List.mem_append.1 q).elim (λq=>List.mem_append.2 (.inl (gi q))) (λq=>List.mem_append.2 (.inr q)))
   .split
    .exact h.sub _ (λx q=>(List.mem_append.1 q).elim (λq=>List.mem_append.2 (.inl q)) (λq=>List.mem_append.2 (.inr (gi q))))
    .exact h
theorem TI7.rem{t:T7}(h:TI7 t)(f:Nat):TI7 (t.rem f):=by
 obtain⟨e1,e2,e3,_⟩:=mD t f;refine⟨λx hx=>?_,λx y hx hy e=>?_⟩
 .rw[e1,e2,e3];exact h.u x (dO hx)
 .rw[e1]at e;exact h.ij x y (dO hx) (dO hy) e
theorem TI7.setE{t:T7}(h:TI7 t)(f:Nat)(v:Bool):TI7 (t.setE f v):=by
 unfold T7.setE;split<;>exact⟨h.u,h.ij⟩
theorem Cs{m:Nat}{b1 b2:List Nat}{x:Nat}(h:x∈(bnd m b1 b2).1++(bnd m b1 b2).2):x∈b1++b2:=by
 unfold bnd at h
 split at h
 .split at h
  .exact(List.mem_append.1 h).elim (λq=>List.mem_append.2 (.inl (gi q))) (λq=>List.mem_append.2 (.inr q))
  .exact(List.mem_append.1 h).elim (λq=>List.mem_append.2 (.inl q)) (λq=>List.mem_append.2 (.inr (gi q)))
 .exact h
theorem put_mem{t:T7}{f x:Nat}(h:x∈(t.put f).1++(t.put f).2):x∈t.b1++t.b2\/x=t.page f:=by
 unfold T7.put at h;simp only[List.mem_append]at h⊢;by_cases q:f∈t.nw
 .simp only[if_pos q,List.mem_append,List.mem_singleton]at h
  rcases h with(h|h)|h
  .exact .inl (.inl h)
  .exact .inr h
  .exact .inl (.inr h)
 .simp only[if_neg q,List.mem_append,List.mem_singleton]at h
  rcases h with h|h|h
  .exact .inl (.inl h)
  .exact .inl (.inr h)
  .exact .inr h
theorem TI7.gone{t:T7}(h:TI7 t)(n id:Nat){f:Nat}(hf:f∈t.nw\/f∈t.mn):TI7 (t.gone n id f):=by
 unfold T7.gone
 split
 .have hf':f∈(t.keep n f).nw\/f∈(t.keep n f).mn:=hf
  obtain⟨e1,e2,e3,_⟩:=mD (t.keep n f) f;refine⟨λx hx=>?_,λx y hx hy e=>?_⟩
  .have hx0:x∈t.nw\/x∈t.mn:=@dO (t.keep n f) f x hx
   rw[e1,e2,e3];refine⟨(h.u x hx0).1,λq=>?_⟩;rcases put_mem (Cs q)with q|q
   .exact(h.u x hx0).2 q
   .exact BO hf' hx (h.ij x f hx0 hf q)
  .rw[e1]at e
   exact h.ij x y (@dO (t.keep n f) f x hx) (@dO (t.keep n f) f y hy) e
 .exact h.rem f
theorem TI7.acc{t:T7}(h:TI7 t){f id:Nat}(hu:aK id)(hp:(f∈t.nw\/f∈t.mn)\/∀g,g∈t.nw\/g∈t.mn->¬t.page g=id):TI7 (t.acc f id):=by
 unfold T7.acc
 split
 .rename_i h2
  have hmem:∀x,x∈ac t.nw f\/x∈ac t.mn f++[f]->x∈t.nw\/x∈t.mn:=by
   intro x hx;rcases hx with q|q
   .exact .inl (List.mem_filter.1 q).1
   .rcases List.mem_append.1 q with q|q
    .exact .inr (List.mem_filter.1 q).1
    .rw[List.mem_singleton.1 q];exact h2
  exact⟨λx hx=>h.u x (hmem x hx),λx y hx hy e=>h.ij x y (hmem x hx) (hmem y hy) e⟩
 .rename_i h2
  have hp':=hp.resolve_left h2
  have key:∀(nw' mn' b1' b2':List Nat),(∀x,x∈nw'\/x∈mn'->(x∈t.nw\/x∈t.mn)\/x=f)->(∀y∈b1'++b2',y∈t.b1++t.b2/\¬y=id)->TI7 ⟨nw',mn',upd t.page f id,t.ev,b1',b2',t.goal⟩:=by
   intro nw' mn' b1' b2' hmem hgh;refine⟨λx hx=>?_,λx y hx hy e=>?_⟩
   .show aK (upd t.page f id x)/\¬upd t.page f id x∈b1'++b2'
    by_cases e:x=f
    .subst e;rw[upd_same];exact⟨hu,λq=>(hgh _ q).2 rfl⟩
    .rw[aa _ _ e]
     have hx0:=(hmem x hx).resolve_right e;exact⟨(h.u x hx0).1,λq=>(h.u x hx0).2 (hgh _ q).1⟩
   .have e:upd t.page f id x=upd t.page f id y:=e
    by_cases ex:x=f
    .by_cases ey:y=f
     .rw[ex,ey]
     .rw[ex,upd_same,aa _ _ ey]at e
      exact(hp' y ((hmem y hy).resolve_right ey) e.symm).elim
    .by_cases ey:y=f
     .rw[ey,upd_same,aa _ _ ex]at e
      exact(hp' x ((hmem x hx).resolve_right ex) e).elim
     .rw[aa _ _ ex,aa _ _ ey]at e
      exact h.ij x y ((hmem x hx).resolve_right ex) ((hmem y hy).resolve_right ey) e
  split
  .refine key _ _ _ _ (λx hx=>?_) (λy hy=>?_)
   .rcases hx with q|q
    .exact .inl (.inl q)
    .rcases List.mem_append.1 q with q|q
     .exact .inl (.inr q)
     .exact .inr (List.mem_singleton.1 q)
   .rcases List.mem_append.1 hy with q|q
    .have:=List.mem_filter.1 q
     exact⟨List.mem_append.2 (.inl this.1),by simpa using this.2⟩
    .have:=List.mem_filter.1 q
     exact⟨List.mem_append.2 (.inr this.1),by simpa using this.2⟩
  .rename_i hid
   refine key _ _ _ _ (λx hx=>?_) (λy hy=>⟨hy,λe=>hid (e▸hy)⟩);rcases hx with q|q
   .rcases List.mem_append.1 q with q|q
    .exact .inl (.inl q)
    .exact .inr (List.mem_singleton.1 q)
   .exact .inl (.inr q)
def xe(n:Nat):Pol T7 where
 miss t id:=t.miss n id
 access t f id:=t.acc f id
 set t f v:=t.setE f v
 victim t id:=t.goes id
 gone t id:=match t.goes id with|none=>t|some f=>t.gone n id f
 remove t f:=t.rem f
 size t:=cntL (t.nw++t.mn) t.ev
 ghosts t:=t.b1++t.b2
def GK(n:Nat)(t:T7)(c:Cl):Prop:=((c.kind=1\/c.kind=2\/c.kind=4)->c.frame<n)/\(c.kind=1->aK c.page/\((c.frame∈t.nw\/c.frame∈t.mn)\/∀g,g∈t.nw\/g∈t.mn->¬t.page g=c.page))/\((c.kind=0\/c.kind=3)->aK c.page)
def CRA(b n:Nat)(w:World)(t:T7)(F:Nat->Prop):Prop:=∃A k1 k2 sp gp,AC w b n A t k1 k2 sp gp/\TI7 t/\∀i,F i↔FT A b i
theorem FB(b n:Nat):ya (xe n) (CRA b n) b (GK n) 221 219 223 225 222 where
 fr:=by
  rintro w w' t F G⟨A,k1,k2,sp,gp,h,hi,hF⟩f hd;exact⟨A,k1,k2,sp,gp,h.fr f (λi q=>hd i ((hF i).2 q)),hi,hF⟩
 lt:=by
  rintro w t F⟨A,k1,k2,sp,gp,h,hi,hF⟩i q;exact h.lt i ((hF i).1 q)
 miss:=by
  rintro w t F c⟨A,k1,k2,sp,gp,h,hi,hF⟩hp hk;exact(CJ h (hp.2.2 (.inl hk))).mono λe w' ⟨he,⟨q1,q2,q3,q4,h'⟩,hf⟩=>⟨he,F,⟨A,q1,q2,q3,q4,h',hi.miss n _,hF⟩,hf.mono (λi q=>(hF i).2 q),λi hi=>.inl hi⟩
 access:=by
  rintro w t F c⟨A,k1,k2,sp,gp,h,hi,hF⟩hp hk;obtain⟨hu,hq⟩:=hp.2.1 hk;exact(xS h (hp.1 (.inl hk)) hu).mono λe w' ⟨he,⟨q1,q2,q3,q4,h'⟩,hf⟩=>⟨he,F,⟨A,q1,q2,q3,q4,h',hi.acc hu hq,hF⟩,hf.mono (λi q=>(hF i).2 q),λi hi=>.inl hi⟩
 set:=by
  rintro w t F c⟨A,k1,k2,sp,gp,h,hi,hF⟩hp hk;exact(AA h c.frame (hp.1 (.inr (.inl hk))) c.on).mono λe w' ⟨he,h',hf⟩=>⟨he,F,⟨A,k1,k2,sp,gp,h',hi.setE _ _,hF⟩,hf.mono (λi q=>(hF i).2 (q.elim (λq=>.inr (.inr (.inl q))) (λq=>.inl q))),λi hi=>.inl hi⟩
 victimNo:=by
  rintro w t F c⟨A,k1,k2,sp,gp,h,hi,hF⟩hp hk hv;exact(oK h _ hv).mono λe w' ⟨he,hw⟩=>⟨he,F,hw▸⟨A,k1,k2,sp,gp,h,hi,hF⟩,hw▸Fr.refl _ _,λi hi=>.inl hi⟩
 victimYes:=by
  rintro w t F c a⟨A,k1,k2,sp,gp,h,hi,hF⟩hp hk hv;have hv:t.goes c.page=some a:=hv;have hg:(xe n).gone t c.page=t.gone n c.page a:=by show(match t.goes c.page with|none=>t|some f=>t.gone n c.page f)=_;rw[hv]
  rw[hg];exact(my h hi (hp.2.2 (.inr hk)) hv).mono λe w' ⟨he,⟨q1,q2,q3,q4,h'⟩,hf⟩=>⟨he,F,⟨A,q1,q2,q3,q4,h',hi.gone n _ (m7 hv),hF⟩,hf.mono (λi q=>(hF i).2 q),λi hi=>.inl hi⟩
 remove:=by
  rintro w t F c⟨A,k1,k2,sp,gp,h,hi,hF⟩hp hk;exact(mS h c.frame (hp.1 (.inr (.inr hk)))).mono λe w' ⟨he,h',hf⟩=>⟨he,F,⟨A,k1,k2,sp,gp,h',hi.rem _,hF⟩,hf.mono (λi q=>(hF i).2 q),λi hi=>.inl hi⟩
end
section
open Go.Maps Go.Proofs.Tryz Go.RowKit
theorem rj(k:Nat):cH [[],[],List.range k] 2 k false=[[],[],List.range (k+1)]:=by
 rw[vB ⟨by simp,by simp,by simp⟩];rw[ah (l:=List.range k) (λq=>by have:=List.mem_range.1 q;omega),List.range_succ];rfl
theorem Ek(n:Nat)(w:World)(hn:n<=65536):
  Calls prog 51 #[.int .i64 n] w λe w'=>∃gr gpb mb FG,e=.returned (.tuple #[.agg #[.pointer (some ⟨gr,0,none⟩),.slice (some ⟨gpb,0,none⟩) n n,.map (some mb)],.int .i64 0])/\
   GA w' gr gpb mb n [] [] (List.range n) (λ_=>0) [] [] FG/\(∀i,FGm FG gpb mb i->w.heap.size<=i)/\Fr NoF w w':=by
 have mk1:=mkU n (by omega);have HN:Hid (∀w:World,Calls prog 47 #[.int .i64 n,.int .i64 3] w λe w'=>∃b F,e=.returned (.tuple #[.pointer (some ⟨b,0,none⟩),.int .i64 0])/\RR w' b n 3 (List.replicate 3 []) F/\(∀i,F i->w.heap.size<=i)/\Fr NoF w w'):=λw=>gx n 3 w (by omega) (by omega) (by omega)
 have hmm:=@run_makeMap prog;go_enter func51,ntmps51
 go_wp2_with fail
 refine(HN.out _).mono ?_;clear HN;rintro e w1⟨gr,FG,rfl,hR,hFG,hf⟩;have hw0:¬FG w.heap.size:=λq=>by have:=hFG _ q;simp at this;omega
 have hgs:=hR.lt;have hsz:=hf.size;simp only[World.size_alloc]at hsz;have lw:w.heap.size<w1.heap.size:=by omega
 have HFG:=Hd hFG;have HF:=Hd hf;have HR:=Hd hR;have HW0:=Hd hw0;clear hR hFG hf hw0 hgs;go_wp2
 go_loopw [6,17] (λ_ i wr=>∃k:Nat,k<=n/\i=.int .i64 k/\RR wr gr n 3 [[],[],List.range k] FG/\Fr FG w1 wr) (λ_ i _=>n-(intOf i).toNat)
 case atStart=>exact⟨0,Nat.zero_le _,rfl,HR.out,Fr.refl _ _⟩
 case round=>
  obtain⟨k,hk,rfl,hR,hf⟩:=hrel;by_cases hlt:k<n
  .have HB:=aI hR 2 k (by omega) hlt
   rw[rj]at HB;have HB:=Hd HB;have HF2:=Hd hf;clear hR hf
   go_wp2_with fail
   refine HB.out.mono ?_;rintro e w2⟨rfl,hR2,f2⟩;have KEY:=Hd (And.intro hR2 (HF2.out.trans f2 (λ_ q=>.inl q)));clear hR2 f2 HB HF2;go_wp2
   go_roundw
   case rel=>exact⟨k+1,hlt,by go_num,KEY.out⟩
   case measure=>first|(simp[intOf];done)|(simp[intOf];omega)
  .obtain rfl:k=n:=by omega
   have hB0:Blk (w.alloc (.cells #[.pointer none,.slice none 0 0,.map none] 146)) w.heap.size 3 (λi=>(#[.pointer none,.slice none 0 0,.map none]:Array Value).getD i undef):=Blk.new _ _ _ 3 _ _ rfl rfl (λi hi=>by
    match i,hi with
    |0,_=>rfl
    |1,_=>rfl
    |2,_=>rfl)
   have hB:=(hB0.fr HF.out id).fr hf HW0.out;have r0:wr.cell? ⟨w.heap.size,0,none⟩=some (.pointer none):=hB.cell (i:=0) (by omega);have r1:wr.cell? ⟨w.heap.size,1,none⟩=some (.slice none 0 0):=hB.cell (i:=1) (by omega);have r2:wr.cell? ⟨w.heap.size,2,none⟩=some (.map none):=hB.cell (i:=2) (by omega);have rf:∀i,wr.frozen? ⟨w.heap.size,i,none⟩=false:=hB.frozen;have hs2:=hf.size;have lw2:w.heap.size<wr.heap.size:=by omega
   have HRR:=Hd hR;have HF2:=Hd hf;have HB:=Hd hB;clear hR hf hB hB0
   have KEY:Hid (∀W:World,Fr (λi=>i=w.heap.size) wr W->W.heap.size=wr.heap.size->GA ((W.alloc (.cells (madeCells #[.int .u32 0] k) 34)).alloc (.map #[] 0)) gr wr.heap.size (wr.heap.size+1) k [] [] (List.range k) (λ_=>0) [] [] FG/\(∀i,FGm FG wr.heap.size (wr.heap.size+1) i->w.heap.size<=i)/\Fr NoF w ((W.alloc (.cells (madeCells #[.int .u32 0] k) 34)).alloc (.map #[] 0))):=by
    intro W f eW;have hlt:=HRR.out.lt;have fA:Fr NoF W ((W.alloc (.cells (madeCells #[.int .u32 0] k) 34)).alloc (.map #[] 0)):=((Fr.refl _ _).alloc _).alloc _
    have hblk:Blk ((W.alloc (.cells (madeCells #[.int .u32 0] k) 34)).alloc (.map #[] 0)) W.heap.size k (uN λ_=>0):=(Blk.new _ _ _ k _ _ rfl (by simp[size_madeCells]) (λi hi=>by
     rw[du hi,show(#[Value.int .u32 0]:Array Value).size=1 from rfl,Nat.mod_one];rfl)).alloc _
    have hmp:=MpN.made prog 34 3 .u32 .i64 (W.alloc (.cells (madeCells #[.int .u32 0] k) 34));rw[World.size_alloc,eW]at hmp;rw[eW]at hblk;refine⟨⟨(HRR.out.fr f (λi hi e=>HW0.out (e▸hi))).fr fA (λ_ _ q=>q),hblk,hmp,rfl,rfl,List.nodup_nil,by simp,λx hx=>(by cases hx),hn,λq=>by have:=hlt _ q;omega,λq=>by have:=hlt _ q;omega,by omega⟩,?_,?_⟩
    .rintro i(q|q|q)
     .have:=HFG.out i q;simp at this;omega
     .omega
     .omega
    .have f0:Fr NoF w wr:=((((Fr.refl NoF w).alloc _).trans HF.out (λ_ q=>q.elim))).trans HF2.out (λi q=>.inr (by have:=HFG.out i q;simp at this;omega))
     exact(f0.trans f (λi e=>.inr (by omega))).trans fA (λ_ q=>q.elim)
   have hG:Blk (((((wr.setCell ⟨w.heap.size,0,none⟩ (.pointer (some ⟨gr,0,none⟩))).setCell ⟨w.heap.size,1,none⟩ (.slice (some ⟨wr.heap.size,0,none⟩) k k)).setCell ⟨w.heap.size,2,none⟩ (.map (some (wr.heap.size+1)))).alloc (.cells (madeCells #[.int .u32 0] k) 34)).alloc (.map #[] 0)) w.heap.size 3 _:=((((HB.out.set 0 _).set 1 _).set 2 _).alloc _).alloc _;have r0':=(hG.cell (i:=0) (by omega)).trans (show _=some (.pointer (some ⟨gr,0,none⟩))from by simp[upd]);have r1':=(hG.cell (i:=1) (by omega)).trans (show _=some (.slice (some ⟨wr.heap.size,0,none⟩) k k)from by simp[upd]);have r2':=(hG.cell (i:=2) (by omega)).trans (show _=some (.map (some (wr.heap.size+1)))from by simp[upd]);clear hG;go_wp2;refine bodyPost_ret (v:=.tuple #[.agg #[.pointer (some ⟨gr,0,none⟩),.slice (some ⟨wr.heap.size,0,none⟩) k k,.map (some (wr.heap.size+1))],.int .i64 0]) (by simp only[results,Tryz.results51,go_sem];simp[go_sem,r0',r1',r2']) rfl ⟨gr,wr.heap.size,wr.heap.size+1,FG,rfl,KEY.out _ ?_ (by simp)⟩;exact(((Fr.refl (λi=>i=w.heap.size) wr).setCell (p:=⟨w.heap.size,0,none⟩) (.inl rfl) _).setCell (p:=⟨w.heap.size,1,none⟩) (.inl rfl) _).setCell (p:=⟨w.heap.size,2,none⟩) (.inl rfl) _
def t70:T7:=⟨[],[],λ_=>0,λ_=>false,[],[],0⟩
theorem s6(n:Nat)(w:World)(h1:1<=n)(hn:n<=65535):
  Calls prog 29 #[.int .i64 n] w λe w'=>∃b F,e=.returned (.tuple #[.pointer (some ⟨b,0,none⟩),.int .i64 0])/\CRA b n w' t70 F/\(∀i,F i->w.heap.size<=i)/\Fr NoF w w':=by
 have mk1:=mkU n (by omega);have mk2:=mkB n (by omega);have MK:=Hd (And.intro mk1 mk2);have HN:=Hd (gx n 2 w (by omega) (by omega) (by omega));have HNG:=Hd (λw=>Ek (n+1) w (by omega));clear mk1 mk2;go_enter func29,ntmps29
 go_wp2_with fail
 refine HN.out.mono ?_;clear HN;rintro e w1⟨rb,FR,rfl,hR,hFR,hf1⟩;have HR:=Hd hR;have HFR:=Hd hFR;have HF1:=Hd hf1;clear hR hFR hf1
 go_wp2_with fail
 refine(HNG.out w1).mono ?_;clear HNG;rintro e w2⟨gr,gpb,mb,FG,rfl,hG,hFG,hf2⟩;have HG:=Hd hG;have HFG:=Hd hFG;have HF2:=Hd hf2;obtain⟨mk1,mk2⟩:=MK.out
 have KEY:Hid (∀(wz:World) (b pb eb:Nat),Fr NoF w2 wz->wz.heap[b]?=some (.cells #[.int .i64 0,.pointer (some ⟨rb,0,none⟩),.slice (some ⟨pb,0,none⟩) n n,.slice (some ⟨eb,0,none⟩) n n,.int .i64 0,.pointer (some ⟨gr,0,none⟩),.slice (some ⟨gpb,0,none⟩) (n+1) (n+1),.map (some mb)] 150 (0,0))->
   wz.heap[pb]?=some (.cells (madeCells #[.int .u32 0] n) 34 (0,0))->wz.heap[eb]?=some (.cells (madeCells #[.bool false] n) 4 (0,0))->¬b=pb->¬b=eb->¬pb=eb->w2.heap.size<=b->w2.heap.size<=pb->w2.heap.size<=eb->
   ∃c F,Ending.returned (.tuple #[.pointer (some ⟨b,0,none⟩),.int .i64 0])=.returned (.tuple #[.pointer (some ⟨c,0,none⟩),.int .i64 0])/\CRA c n wz.drew t70 F/\(∀i,F i->w.heap.size<=i)/\Fr NoF w wz.drew):=by
  intro wz b pb eb fz g3 g1 g2 d1 d2 d3 l1 l2 l3;have hR0:=HR.out;have hrl:=hR0.lt;have s1:=HF1.out.size;have s2:=hf2.size
  obtain⟨hL,k1,k2,k3,k4⟩:=vq d1 d2 d3 l1 l2 l3 (z0:=w.heap.size) (by omega) (λi q=>⟨HFR.out i q,by have:=hrl i q;omega⟩) (λi q=>⟨by have:=hFG i q;omega,by
   rcases q with q|rfl|rfl
   .exact hG.rr.lt i q
   .exact hG.pg.lt
   .exact hG.mp.lt,λq2=>by have:=hrl i q2;have:=hFG i q;omega⟩) hG.d1 hG.d2 (λe=>hG.d3 e.symm) g1 g2 g3
  exact⟨b,FT _ b,rfl,(FB _ n).fr ⟨_,[],[],List.range (n+1),λ_=>0,⟨k1,(hR0.fr hf2 (λ_ _ q=>q)).fr fz (λ_ _ q=>q),k2,k3,hG.fr fz (λ_ _ q=>q) id id,hL,λf q=>(by cases q),hn,Nat.zero_le _,Nat.zero_le _⟩,⟨λf q=>(by rcases q with q|q<;>cases q),λf g q=>(by rcases q with q|q<;>cases q)⟩,λ_=>Iff.rfl⟩ ((Fr.refl NoF _).drew) (λ_ _ q=>q),k4,((HF1.out.trans HF2.out (λ_ q=>q.elim)).trans fz (λ_ q=>q.elim)).drew⟩
 clear hG hFG hf2 MK;go_wp2
 go_region
 all_goals
  go_wp2;go_returns;exact KEY.out _ _ _ _ (by repeat(first|exact Fr.refl NoF _|apply Fr.alloc)) (heap_alloc_new _ _ _ (by simp)) (by first|exact aH _ _ _ _ (heap_alloc_new _ _ _ (by simp))|exact aH _ _ _ _ (aH _ _ _ _ (heap_alloc_new _ _ _ (by simp)))) (by first|exact aH _ _ _ _ (heap_alloc_new _ _ _ (by simp))|exact aH _ _ _ _ (aH _ _ _ _ (heap_alloc_new _ _ _ (by simp)))) (by omega) (by omega) (by omega) (by omega) (by omega) (by omega)
end
end Go.Proofs.YtoenclhimbpfeaaGreatDoor
