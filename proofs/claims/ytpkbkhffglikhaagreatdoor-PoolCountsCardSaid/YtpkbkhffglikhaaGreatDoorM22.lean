/- Part 22. -/
import Derived.Test.YtpkbkhffglikhaaGreatDoorM21
import Derived.Test.YtpkbkhffglikhaaGreatDoorM14
import Derived.Test.YtpkbkhffglikhaaGreatDoorM17
namespace Go.Proofs.YtpkbkhffglikhaaGreatDoor
set_option linter.all false
set_option maxHeartbeats 16000000
set_option maxRecDepth 100000
section
open Go.Maps Go.Proofs.Tryz Go.RowKit
section
variable{w w':World}{b n:Nat}{A:TA}{t:T7}{k1 k2 sp:List Nat}{gp:Nat->Nat}
theorem ar_remove_res(h:ResA w b n A t w'){f:Nat}(hf:f<n):Calls prog 190 #[.pointer (some ⟨b,0,none⟩),.int .i64 f] w' λe w''=>e=.returned (.tuple #[])/\ResA w b n A (t.rem f) w'':=by
 obtain⟨⟨k1,k2,sp,gp,h1⟩,h2⟩:=h;exact(ar_remove h1 f hf).mono λe w'' ⟨he,q1,q2⟩=>⟨he,⟨_,_,_,_,q1⟩,h2.trans q2 (λ_ q=>.inl q)⟩
theorem ar_victim_yes(h:AC w b n A t k1 k2 sp gp)(hi:TI7 t){id:Nat}(hu:isU32 id){f:Nat}(hv:t.goes id=some f):Calls prog 193 #[.pointer (some ⟨b,0,none⟩),.int .u32 id] w λe w'=>e=.returned (.tuple #[.int .i64 f,.bool true])/\ResA w b n A (t.gone n id f) w':=by
 have hm:=goesC_mem hv;have hfn:f<n:=hm.elim (h.lists.2.1 f) (h.lists.2.2.1 f);have hn:=h.hn;have hb:=h.hb
 have hcnt:¬cntL (t.nw++t.mn) t.ev=0:=λq=>by
  have:=(goesC_none (c:=sideN t.b1 t.b2 id)).2 q;rw[show t.goesC (sideN t.b1 t.b2 id)=some f from hv]at this
  cases this
 have hcl:=cnt_le (t.nw++t.mn) t.ev;have hln:=h.lists.2.2.2.2;have hln0:t.nw.length<=n:=by rw[List.length_append]at hln;omega
 have HZ:=Hd (ar_size h);have HSD:=ga_side h.gg h.gH hu;have HGO:=ar_goes h (sideN t.b1 t.b2 id);rw[show t.goesC (sideN t.b1 t.b2 id)=some f from hv,show ixI (some f)=(f:Int)from rfl]at HGO
 obtain⟨kk,hkk,hk2,hkp⟩:∃kk:Nat,(if f∈t.nw then(0:Int)else if f∈t.mn then 1 else-1)=(kk:Int)/\kk<2/\(t.put f)=((if kk=0 then t.b1++[t.page f]else t.b1),(if kk=0 then t.b2 else t.b2++[t.page f])):=by
  by_cases q:f∈t.nw
  .exact⟨0,by rw[if_pos q];rfl,by omega,by unfold T7.put;rw[if_pos q,if_pos q];rfl⟩
  .exact⟨1,by rw[if_neg q,if_pos (hm.resolve_left q)];rfl,by omega,by unfold T7.put;rw[if_neg q,if_neg q];rfl⟩
 have HI:Hid (∀w',Fr NoF w w'->Calls prog 111 #[.pointer (some ⟨A.rb,0,none⟩),.int .i64 f] w' λe w''=>e=.returned (.int .i64 (kk:Int))/\w'=w''):=by
  intro w' q;have:=In_all (h.rr.fr q (λ_ _ q=>q)) f;rw[ix2,hkk]at this;exact this
 have L0:Hid (∀d,Calls prog 184 #[.pointer (some ⟨A.rb,0,none⟩),.int .i64 0] (w.drewN d) λe w'=>e=.returned (.int .i64 (t.nw.length:Nat))/\w.drewN d=w'):=λd=>Len_all (h.rr.fr ((Fr.refl NoF w).drewN d) (λ_ _ q=>q)) 0
 obtain⟨u1,u2⟩:=hi.u f hm
 have hplen:(t.put f).1.length+(t.put f).2.length=t.b1.length+t.b2.length+1:=by
  unfold T7.put;by_cases q:f∈t.nw
  .simp only[if_pos q,List.length_append,List.length_singleton];omega
  .simp only[if_neg q,List.length_append,List.length_singleton];omega
 have HREM:Hid (∀w',Fr NoF w w'->Calls prog 200 #[.pointer (some ⟨b,5,none⟩),.int .i64 kk,.int .u32 (t.page f:Nat)] w' λe w''=>e=.returned (.tuple #[])/\RemA w A.gr A.gpb A.mb (n+1) (t.put f).1 (t.put f).2 A.FG w''):=by
  intro w' q;have h1:=h.fr0 q;have:=ga_remember h1.gg h1.gH u1 u2 kk hk2 (by omega);rw[hkp];exact this.mono λe w'' ⟨he,hr⟩=>⟨he,hr.trans0 q⟩
 have HHD:Hid (∀w2,Fr (FGm A.FG A.gpb A.mb) w w2->w2.cell? ⟨b,2,none⟩=some (.slice (some ⟨A.pb,0,none⟩) n n)/\b<w2.heap.size/\GH w2 b A.gr A.gpb A.mb (n+1) A.FG):=by
  intro w2 f2;obtain⟨n1,n2,n3,n4,n5,n6,n7,n8,n9,n10⟩:=h.lb.ne;have hd2:=h.hd.fr f2 n7;exact⟨hd2.cell (i:=2) (by omega),hd2.lt,h.gH.fr f2 n7⟩
 have c1:w.cell? ⟨b,1,none⟩=some (.pointer (some ⟨A.rb,0,none⟩)):=h.c 1 (by omega);have c2:w.cell? ⟨b,2,none⟩=some (.slice (some ⟨A.pb,0,none⟩) n n):=h.c 2 (by omega);have cp:=h.cp hfn;have lb:=h.hd.lt;have HKEEP:Hid (∀w2,RemA w A.gr A.gpb A.mb (n+1) (bnd n (t.put f).1 (t.put f).2).1 (bnd n (t.put f).1 (t.put f).2).2 A.FG w2->ResA w b n A (t.keep n f) w2):=λw2 hr=>h.res (bnd_len (by omega)) hr
 have HRM0:Hid (∀w',Fr NoF w w'->Calls prog 190 #[.pointer (some ⟨b,0,none⟩),.int .i64 f] w' λe w''=>e=.returned (.tuple #[])/\ResA w b n A (t.rem f) w''):=λw' q=>ar_remove_res ⟨⟨_,_,_,_,h.fr0 q⟩,q.mono (λ_ q=>q.elim)⟩ hfn
 have HGN:Hid (t.gone n id f=(if 0<=sideN t.b1 t.b2 id\/t.nw.length<n then t.keep n f else t).rem f):=rfl;have hpl:(t.put f).1.length+(t.put f).2.length<=n+1:=by omega
 have HPL:=Hd hpl;have hz0:cntL (t.nw++t.mn) t.ev<=65535:=by omega
 generalize cntL (t.nw++t.mn) t.ev=z at*;have hcnt2:((z:Int)==0)=false:=by simp;omega
 have hz1:¬(z:Int)=0:=by omega
 rw[HGN.out];clear HGN h hi hm hv hkk hkp hplen hpl u1 u2 hk2;generalize sideN t.b1 t.b2 id=c at*;generalize t.page f=x at*;generalize t.put f=pt at*;generalize t.nw.length=L at*;by_cases hc:0<=c
 .rw[if_pos (.inl hc)]
  have HSD':=Hd HSD;have HGO':=Hd HGO;clear HSD HGO;go_enter func193,ntmps193
  go_wp2_with(first
   |(go_at_call 192;refine HZ.out.mono ?_;rintro e w'⟨rfl,rfl⟩)
   |(go_at_call 197;refine HSD'.out.mono ?_;rintro e w'⟨rfl,rfl⟩)
   |(go_at_call 199;refine HGO'.out.mono ?_;rintro e w'⟨rfl,d,rfl⟩))
  go_quiet (fail)
  go_wp2_with fail
  go_region_with (first
   |(go_at_call 111;(with_reducible refine(HI.out _ (by repeat(first|exact Fr.refl NoF _|apply Fr.drew|apply Fr.drewN))).mono ?_);rintro e w'⟨rfl,rfl⟩)
   |(go_at_call 200;(with_reducible refine(HREM.out _ (by repeat(first|exact Fr.refl NoF _|apply Fr.drew|apply Fr.drewN))).mono ?_);rintro e w2⟨rfl,h2⟩;have H2:=Hd h2;clear h2))
  all_goals
   obtain⟨j1,j2,js,jp,hga,hf2⟩:=H2.out;obtain⟨e2,lb2,hgh⟩:=HHD.out w2 hf2
   have HB:Hid (∀w',Fr NoF w2 w'->Calls prog 201 #[.pointer (some ⟨b,5,none⟩),.int .i64 n] w' λe w''=>e=.returned (.tuple #[])/\ResA w b n A (t.keep n f) w''):=by
    intro w' q;refine(ga_bound (hga.fr0 q) (hgh.fr q (λq=>q)) n (by omega) HPL.out).mono λe w'' ⟨he,r1,r2,rs,rp,g1,g2⟩=>⟨he,HKEEP.out w'' ⟨r1,r2,rs,rp,g1,(hf2.trans q (λ_ q=>q.elim)).trans g2 (λ_ q=>.inl q)⟩⟩
   clear hga hf2 hgh
   go_wp2_with fail
   go_region_with (go_at_call 201;(with_reducible refine(HB.out _ (by repeat(first|exact Fr.refl NoF _|apply Fr.drew|apply Fr.drewN))).mono ?_);rintro e w3⟨rfl,h3⟩;have H3:=Hd h3;clear h3)
   all_goals
    have HR:=Hd (ar_remove_res H3.out hfn)
    go_wp2_with fail
    refine HR.out.mono ?_;rintro e w4⟨rfl,h4⟩;have K:=Hd h4;clear h4 HR;go_wp2;go_returns;exact⟨rfl,K.out⟩
 .have hc':c<0:=by omega
  by_cases hL:L<n
  .rw[if_pos (.inr hL)]
   have hL':(L:Int)<(n:Int):=by omega
   clear hL hc;have HSD':=Hd HSD;have HGO':=Hd HGO;clear HSD HGO;go_enter func193,ntmps193
   go_wp2_with(first
    |(go_at_call 192;refine HZ.out.mono ?_;rintro e w'⟨rfl,rfl⟩)
    |(go_at_call 197;refine HSD'.out.mono ?_;rintro e w'⟨rfl,rfl⟩)
    |(go_at_call 199;refine HGO'.out.mono ?_;rintro e w'⟨rfl,d,rfl⟩))
   go_quiet ((first|(go_at_call 184;with_reducible exact qa (L0.out _))|fail))
   go_wp2_with fail
   go_region_with (first
    |(go_at_call 111;(with_reducible refine(HI.out _ (by repeat(first|exact Fr.refl NoF _|apply Fr.drew|apply Fr.drewN))).mono ?_);rintro e w'⟨rfl,rfl⟩)
    |(go_at_call 200;(with_reducible refine(HREM.out _ (by repeat(first|exact Fr.refl NoF _|apply Fr.drew|apply Fr.drewN))).mono ?_);rintro e w2⟨rfl,h2⟩;have H2:=Hd h2;clear h2))
   all_goals
    obtain⟨j1,j2,js,jp,hga,hf2⟩:=H2.out;obtain⟨e2,lb2,hgh⟩:=HHD.out w2 hf2
    have HB:Hid (∀w',Fr NoF w2 w'->Calls prog 201 #[.pointer (some ⟨b,5,none⟩),.int .i64 n] w' λe w''=>e=.returned (.tuple #[])/\ResA w b n A (t.keep n f) w''):=by
     intro w' q;refine(ga_bound (hga.fr0 q) (hgh.fr q (λq=>q)) n (by omega) HPL.out).mono λe w'' ⟨he,r1,r2,rs,rp,g1,g2⟩=>⟨he,HKEEP.out w'' ⟨r1,r2,rs,rp,g1,(hf2.trans q (λ_ q=>q.elim)).trans g2 (λ_ q=>.inl q)⟩⟩
    clear hga hf2 hgh
    go_wp2_with fail
    go_region_with (go_at_call 201;(with_reducible refine(HB.out _ (by repeat(first|exact Fr.refl NoF _|apply Fr.drew|apply Fr.drewN))).mono ?_);rintro e w3⟨rfl,h3⟩;have H3:=Hd h3;clear h3)
    all_goals
     have HR:=Hd (ar_remove_res H3.out hfn)
     go_wp2_with fail
     refine HR.out.mono ?_;rintro e w4⟨rfl,h4⟩;have K:=Hd h4;clear h4 HR;go_wp2;go_returns;exact⟨rfl,K.out⟩
  .rw[if_neg (λq=>q.elim hc hL)]
   have hL':(n:Int)<=(L:Int):=by omega
   clear hL hc;have HSD':=Hd HSD;have HGO':=Hd HGO;clear HSD HGO;go_enter func193,ntmps193
   go_wp2_with(first
    |(go_at_call 192;refine HZ.out.mono ?_;rintro e w'⟨rfl,rfl⟩)
    |(go_at_call 197;refine HSD'.out.mono ?_;rintro e w'⟨rfl,rfl⟩)
    |(go_at_call 199;refine HGO'.out.mono ?_;rintro e w'⟨rfl,d,rfl⟩))
   go_quiet ((first|(go_at_call 184;with_reducible exact qa (L0.out _))|fail))
   go_wp2_with fail
   refine(HRM0.out _ (by repeat(first|exact Fr.refl NoF _|apply Fr.drew|apply Fr.drewN))).mono ?_;rintro e w2⟨rfl,h2⟩;have K:=Hd h2;clear h2;go_wp2;go_returns;exact⟨rfl,K.out⟩
end
end
section
open Go.Maps Go.RowKit
theorem rem7_mem{t:T7}{f x:Nat}(h:x∈(t.rem f).nw\/x∈(t.rem f).mn):x∈t.nw\/x∈t.mn:=by
 unfold T7.rem at h
 split at h
 .exact h.imp (λq=>(List.mem_filter.1 q).1) (λq=>(List.mem_filter.1 q).1)
 .exact h
theorem rem7_ne{t:T7}{f x:Nat}(hf:f∈t.nw\/f∈t.mn)(h:x∈(t.rem f).nw\/x∈(t.rem f).mn):¬x=f:=by
 rintro rfl;unfold T7.rem at h;rw[if_pos hf]at h;simp[awayN]at h
theorem rem7_page(t:T7)(f:Nat):(t.rem f).page=t.page/\(t.rem f).b1=t.b1/\(t.rem f).b2=t.b2/\(t.rem f).goal=t.goal:=by unfold T7.rem;split<;>exact⟨rfl,rfl,rfl,rfl⟩
theorem TI7.sub{t:T7}(h:TI7 t){b1 b2:List Nat}(g:Nat)(hs:∀x∈b1++b2,x∈t.b1++t.b2):TI7 ⟨t.nw,t.mn,t.page,t.ev,b1,b2,g⟩:=
 ⟨λf hf=>⟨(h.u f hf).1,λq=>(h.u f hf).2 (hs _ q)⟩,h.ij⟩
theorem drop1_mem{l:List Nat}{x:Nat}(h:x∈l.drop 1):x∈l:=List.mem_of_mem_drop h
theorem TI7.miss{t:T7}(h:TI7 t)(n id:Nat):TI7 (t.miss n id):=by
 unfold T7.miss
 split
 .exact h.sub _ (λx q=>q)
 .split
  .exact h.sub _ (λx q=>q)
  .split
   .exact h.sub _ (λx q=>(List.mem_append.1 q).elim (λq=>List.mem_append.2 (.inl (drop1_mem q))) (λq=>List.mem_append.2 (.inr q)))
   .split
    .exact h.sub _ (λx q=>(List.mem_append.1 q).elim (λq=>List.mem_append.2 (.inl q)) (λq=>List.mem_append.2 (.inr (drop1_mem q))))
    .exact h
theorem TI7.rem{t:T7}(h:TI7 t)(f:Nat):TI7 (t.rem f):=by
 obtain⟨e1,e2,e3,_⟩:=rem7_page t f;refine⟨λx hx=>?_,λx y hx hy e=>?_⟩
 .rw[e1,e2,e3];exact h.u x (rem7_mem hx)
 .rw[e1]at e;exact h.ij x y (rem7_mem hx) (rem7_mem hy) e
theorem TI7.setE{t:T7}(h:TI7 t)(f:Nat)(v:Bool):TI7 (t.setE f v):=by
 unfold T7.setE;split<;>exact⟨h.u,h.ij⟩
theorem bnd_mem{m:Nat}{b1 b2:List Nat}{x:Nat}(h:x∈(bnd m b1 b2).1++(bnd m b1 b2).2):x∈b1++b2:=by
 unfold bnd at h
 split at h
 .split at h
  .exact(List.mem_append.1 h).elim (λq=>List.mem_append.2 (.inl (drop1_mem q))) (λq=>List.mem_append.2 (.inr q))
  .exact(List.mem_append.1 h).elim (λq=>List.mem_append.2 (.inl q)) (λq=>List.mem_append.2 (.inr (drop1_mem q)))
 .exact h
theorem put_mem{t:T7}{f x:Nat}(h:x∈(t.put f).1++(t.put f).2):x∈t.b1++t.b2\/x=t.page f:=by
 unfold T7.put at h;simp only[List.mem_append]at h⊢;by_cases q:f∈t.nw
 .simp only[if_pos q,List.mem_append,List.mem_singleton]at h
  rcases h with(h|h)|h
  .exact .inl (.inl h)
  .exact .inr h
  .exact .inl (.inr h)
 .simp only[if_neg q,List.mem_append,List.mem_singleton]at h
  rcases h with h|h|h
  .exact .inl (.inl h)
  .exact .inl (.inr h)
  .exact .inr h
theorem TI7.gone{t:T7}(h:TI7 t)(n id:Nat){f:Nat}(hf:f∈t.nw\/f∈t.mn):TI7 (t.gone n id f):=by
 unfold T7.gone
 split
 .have hf':f∈(t.keep n f).nw\/f∈(t.keep n f).mn:=hf
  obtain⟨e1,e2,e3,_⟩:=rem7_page (t.keep n f) f;refine⟨λx hx=>?_,λx y hx hy e=>?_⟩
  .have hx0:x∈t.nw\/x∈t.mn:=@rem7_mem (t.keep n f) f x hx
   rw[e1,e2,e3];refine⟨(h.u x hx0).1,λq=>?_⟩;rcases put_mem (bnd_mem q)with q|q
   .exact(h.u x hx0).2 q
   .exact rem7_ne hf' hx (h.ij x f hx0 hf q)
  .rw[e1]at e
   exact h.ij x y (@rem7_mem (t.keep n f) f x hx) (@rem7_mem (t.keep n f) f y hy) e
 .exact h.rem f
theorem TI7.acc{t:T7}(h:TI7 t){f id:Nat}(hu:isU32 id)(hp:(f∈t.nw\/f∈t.mn)\/∀g,g∈t.nw\/g∈t.mn->¬t.page g=id):TI7 (t.acc f id):=by
 unfold T7.acc
 split
 .rename_i h2
  have hmem:∀x,x∈awayN t.nw f\/x∈awayN t.mn f++[f]->x∈t.nw\/x∈t.mn:=by
   intro x hx;rcases hx with q|q
   .exact .inl (List.mem_filter.1 q).1
   .rcases List.mem_append.1 q with q|q
    .exact .inr (List.mem_filter.1 q).1
    .rw[List.mem_singleton.1 q];exact h2
  exact⟨λx hx=>h.u x (hmem x hx),λx y hx hy e=>h.ij x y (hmem x hx) (hmem y hy) e⟩
 .rename_i h2
  have hp':=hp.resolve_left h2
  have key:∀(nw' mn' b1' b2':List Nat),(∀x,x∈nw'\/x∈mn'->(x∈t.nw\/x∈t.mn)\/x=f)->(∀y∈b1'++b2',y∈t.b1++t.b2/\¬y=id)->TI7 ⟨nw',mn',upd t.page f id,t.ev,b1',b2',t.goal⟩:=by
   intro nw' mn' b1' b2' hmem hgh;refine⟨λx hx=>?_,λx y hx hy e=>?_⟩
   .show isU32 (upd t.page f id x)/\¬upd t.page f id x∈b1'++b2'
    by_cases e:x=f
    .subst e;rw[upd_same];exact⟨hu,λq=>(hgh _ q).2 rfl⟩
    .rw[upd_other _ _ e]
     have hx0:=(hmem x hx).resolve_right e;exact⟨(h.u x hx0).1,λq=>(h.u x hx0).2 (hgh _ q).1⟩
   .have e:upd t.page f id x=upd t.page f id y:=e
    by_cases ex:x=f
    .by_cases ey:y=f
     .rw[ex,ey]
     .rw[ex,upd_same,upd_other _ _ ey]at e
      exact(hp' y ((hmem y hy).resolve_right ey) e.symm).elim
    .by_cases ey:y=f
     .rw[ey,upd_same,upd_other _ _ ex]at e
      exact(hp' x ((hmem x hx).resolve_right ex) e).elim
     .rw[upd_other _ _ ex,upd_other _ _ ey]at e
      exact h.ij x y ((hmem x hx).resolve_right ex) ((hmem y hy).resolve_right ey) e
  split
  .refine key _ _ _ _ (λx hx=>?_) (λy hy=>?_)
   .rcases hx with q|q
    .exact .inl (.inl q)
    .rcases List.mem_append.1 q with q|q
     .exact .inl (.inr q)
     .exact .inr (List.mem_singleton.1 q)
   .rcases List.mem_append.1 hy with q|q
    .have:=List.mem_filter.1 q
     exact⟨List.mem_append.2 (.inl this.1),by simpa using this.2⟩
    .have:=List.mem_filter.1 q
     exact⟨List.mem_append.2 (.inr this.1),by simpa using this.2⟩
  .rename_i hid
   refine key _ _ _ _ (λx hx=>?_) (λy hy=>⟨hy,λe=>hid (e▸hy)⟩);rcases hx with q|q
   .rcases List.mem_append.1 q with q|q
    .exact .inl (.inl q)
    .exact .inr (List.mem_singleton.1 q)
   .exact .inl (.inr q)
def polA(n:Nat):Pol T7 where
 miss t id:=t.miss n id
 access t f id:=t.acc f id
 set t f v:=t.setE f v
 victim t id:=t.goes id
 gone t id:=match t.goes id with|none=>t|some f=>t.gone n id f
 remove t f:=t.rem f
 size t:=cntL (t.nw++t.mn) t.ev
 ghosts t:=t.b1++t.b2
def preA(n:Nat)(t:T7)(c:Cl):Prop:=((c.kind=1\/c.kind=2\/c.kind=4)->c.frame<n)/\(c.kind=1->isU32 c.page/\((c.frame∈t.nw\/c.frame∈t.mn)\/∀g,g∈t.nw\/g∈t.mn->¬t.page g=c.page))/\((c.kind=0\/c.kind=3)->isU32 c.page)
def CRA(b n:Nat)(w:World)(t:T7)(F:Nat->Prop):Prop:=∃A k1 k2 sp gp,AC w b n A t k1 k2 sp gp/\TI7 t/\∀i,F i↔FT A b i
theorem cod7(b n:Nat):CodG (polA n) (CRA b n) b (preA n) 189 187 191 193 190 where
 fr:=by
  rintro w w' t F G⟨A,k1,k2,sp,gp,h,hi,hF⟩f hd;exact⟨A,k1,k2,sp,gp,h.fr f (λi q=>hd i ((hF i).2 q)),hi,hF⟩
 lt:=by
  rintro w t F⟨A,k1,k2,sp,gp,h,hi,hF⟩i q;exact h.lt i ((hF i).1 q)
 miss:=by
  rintro w t F c⟨A,k1,k2,sp,gp,h,hi,hF⟩hp hk;exact(ar_miss h (hp.2.2 (.inl hk))).mono λe w' ⟨he,⟨q1,q2,q3,q4,h'⟩,hf⟩=>⟨he,F,⟨A,q1,q2,q3,q4,h',hi.miss n _,hF⟩,hf.mono (λi q=>(hF i).2 q),λi hi=>.inl hi⟩
 access:=by
  rintro w t F c⟨A,k1,k2,sp,gp,h,hi,hF⟩hp hk;obtain⟨hu,hq⟩:=hp.2.1 hk;exact(ar_access h (hp.1 (.inl hk)) hu).mono λe w' ⟨he,⟨q1,q2,q3,q4,h'⟩,hf⟩=>⟨he,F,⟨A,q1,q2,q3,q4,h',hi.acc hu hq,hF⟩,hf.mono (λi q=>(hF i).2 q),λi hi=>.inl hi⟩
 set:=by
  rintro w t F c⟨A,k1,k2,sp,gp,h,hi,hF⟩hp hk;exact(ar_set h c.frame (hp.1 (.inr (.inl hk))) c.on).mono λe w' ⟨he,h',hf⟩=>⟨he,F,⟨A,k1,k2,sp,gp,h',hi.setE _ _,hF⟩,hf.mono (λi q=>(hF i).2 (q.elim (λq=>.inr (.inr (.inl q))) (λq=>.inl q))),λi hi=>.inl hi⟩
 victimNo:=by
  rintro w t F c⟨A,k1,k2,sp,gp,h,hi,hF⟩hp hk hv;exact(ar_victim_no h _ hv).mono λe w' ⟨he,hw⟩=>⟨he,F,hw▸⟨A,k1,k2,sp,gp,h,hi,hF⟩,hw▸Fr.refl _ _,λi hi=>.inl hi⟩
 victimYes:=by
  rintro w t F c a⟨A,k1,k2,sp,gp,h,hi,hF⟩hp hk hv;have hv:t.goes c.page=some a:=hv;have hg:(polA n).gone t c.page=t.gone n c.page a:=by show(match t.goes c.page with|none=>t|some f=>t.gone n c.page f)=_;rw[hv]
  rw[hg];exact(ar_victim_yes h hi (hp.2.2 (.inr hk)) hv).mono λe w' ⟨he,⟨q1,q2,q3,q4,h'⟩,hf⟩=>⟨he,F,⟨A,q1,q2,q3,q4,h',hi.gone n _ (goesC_mem hv),hF⟩,hf.mono (λi q=>(hF i).2 q),λi hi=>.inl hi⟩
 remove:=by
  rintro w t F c⟨A,k1,k2,sp,gp,h,hi,hF⟩hp hk;exact(ar_remove h c.frame (hp.1 (.inr (.inr hk)))).mono λe w' ⟨he,h',hf⟩=>⟨he,F,⟨A,k1,k2,sp,gp,h',hi.rem _,hF⟩,hf.mono (λi q=>(hF i).2 q),λi hi=>.inl hi⟩
end
section
open Go.RowKit
structure RowsOk(n:Nat)(r:Nat->Prop)(page:Nat->Nat)(e:Nat->Bool)(pg:Nat->Nat)(ev:Nat->Bool):Prop where
 mem:∀f,r f↔f<n/\¬pg f=0
 tp:∀f,r f->page f=pg f
 on:∀f,r f->e f=ev f
 off:∀f,¬r f->e f=false
section
variable{n k id:Nat}{r r':Nat->Prop}{page pg pg':Nat->Nat}{e ev ev':Nat->Bool}
theorem RowsOk.same(h:RowsOk n r page e pg ev)(e1:∀i,i<n->pg i=pg' i)(e2:∀i,i<n->¬pg i=0->ev i=ev' i):RowsOk n r page e pg' ev':=by
 refine⟨λf=>(h.mem f).trans ?_,λf q=>(h.tp f q).trans (e1 f ((h.mem f).1 q).1),λf q=>(h.on f q).trans (e2 f ((h.mem f).1 q).1 ((h.mem f).1 q).2),h.off⟩;constructor
 .exact λq=>⟨q.1,by rw[<-e1 f q.1];exact q.2⟩
 .exact λq=>⟨q.1,by rw[e1 f q.1];exact q.2⟩
theorem RowsOk.perm(h:RowsOk n r page e pg ev)(hr:∀x,r' x↔r x):RowsOk n r' page e pg ev:=
 ⟨λf=>(hr f).trans (h.mem f),λf q=>h.tp f ((hr f).1 q),λf q=>h.on f ((hr f).1 q),λf q=>h.off f (λp=>q ((hr f).2 p))⟩
theorem RowsOk.come(h:RowsOk n r page e pg ev)(hk:k<n)(h0:pg k=0)(h1:1<=id)(hr:∀x,r' x↔r x\/x=k):RowsOk n r' (upd page k id) e (upd pg k id) (upd ev k false):=by
 have hn:¬r k:=λq=>((h.mem k).1 q).2 h0
 refine⟨λf=>?_,λf q=>?_,λf q=>?_,λf q=>h.off f (λp=>q ((hr f).2 (.inl p)))⟩
 .rw[hr]
  by_cases c:f=k
  .subst c;rw[upd_same];exact⟨λ_=>⟨hk,by omega⟩,λ_=>.inr rfl⟩
  .rw[upd_other _ _ c,<-h.mem];exact⟨λq=>q.resolve_right c,.inl⟩
 .by_cases c:f=k
  .subst c;rw[upd_same,upd_same]
  .rw[upd_other _ _ c,upd_other _ _ c];exact h.tp f (((hr f).1 q).resolve_right c)
 .by_cases c:f=k
  .subst c;rw[upd_same];exact h.off f hn
  .rw[upd_other _ _ c];exact h.on f (((hr f).1 q).resolve_right c)
theorem RowsOk.go(h:RowsOk n r page e pg ev)(hr:∀x,r' x↔r x/\¬x=k):RowsOk n r' page (upd e k false) (upd pg k 0) (upd ev k false):=by
 refine⟨λf=>?_,λf q=>?_,λf q=>?_,λf q=>?_⟩
 .rw[hr]
  by_cases c:f=k
  .subst c;rw[upd_same];exact⟨λq=>(q.2 rfl).elim,λq=>(q.2 rfl).elim⟩
  .rw[upd_other _ _ c,<-h.mem];exact⟨λq=>q.1,λq=>⟨q,c⟩⟩
 .obtain⟨q1,q2⟩:=(hr f).1 q
  rw[upd_other _ _ q2];exact h.tp f q1
 .obtain⟨q1,q2⟩:=(hr f).1 q
  rw[upd_other _ _ q2,upd_other _ _ q2];exact h.on f q1
 .by_cases c:f=k
  .subst c;rw[upd_same]
  .rw[upd_other _ _ c];exact h.off f (λp=>q ((hr f).2 ⟨p,c⟩))
theorem RowsOk.set(h:RowsOk n r page e pg ev)(hk:r k)(b:Bool):RowsOk n r page (upd e k b) pg (upd ev k b):=by
 refine⟨h.mem,h.tp,λf q=>?_,λf q=>?_⟩
 .by_cases c:f=k
  .subst c;rw[upd_same,upd_same]
  .rw[upd_other _ _ c,upd_other _ _ c];exact h.on f q
 .have c:¬f=k:=λc=>q (c▸hk)
  rw[upd_other _ _ c];exact h.off f q
theorem RowsOk.goer(h:RowsOk n r page e pg ev){x:Nat}(hx:r x)(he:e x=true):Goer n pg ev x:=⟨((h.mem x).1 hx).1,((h.mem x).1 hx).2,by rw[<-h.on x hx];exact he⟩
theorem RowsOk.at(h:RowsOk n r page e pg ev){x:Nat}(hx:Goer n pg ev x):r x/\e x=true:=by
 have q:=(h.mem x).2 ⟨hx.1,hx.2.1⟩;exact⟨q,by rw[h.on x q];exact hx.2.2⟩
end
theorem find_or{a b:List Nat}{p:Nat->Bool}{x:Nat}(h:(a.find? p).or (b.find? p)=some x):(x∈a\/x∈b)/\p x=true:=by
 cases e:a.find? p with
 |some y=>
  rw[e]at h;have h:y=x:=by simpa using h
  subst h;exact⟨.inl (List.mem_of_find?_eq_some e),List.find?_some e⟩
 |none=>
  rw[e]at h;have h:b.find? p=some x:=by simpa using h
  exact⟨.inr (List.mem_of_find?_eq_some h),List.find?_some h⟩
theorem find_or_none{a b:List Nat}{p:Nat->Bool}{x:Nat}(h:(a.find? p).or (b.find? p)=none)(hx:x∈a\/x∈b):p x=false:=by
 have h1:a.find? p=none/\b.find? p=none:=by
  cases e:a.find? p with
  |some y=>rw[e]at h;cases h
  |none=>rw[e]at h;exact⟨rfl,by simpa using h⟩
 rcases hx with q|q
 .have:=List.find?_eq_none.1 h1.1 x q;simpa using this
 .have:=List.find?_eq_none.1 h1.2 x q;simpa using this
def ok4(n:Nat)(m:Nat)(t:LT)(pg:Nat->Nat)(ev:Nat->Bool):Prop:=∃page,RowsOk n (λf=>f∈t.1) page t.2 pg ev
theorem okS4(n:Nat):OkSys lruPol (lruPre n) n (ok4 n) where
 more:=λh _=>h
 same:=λ⟨p,h⟩ e1 e2=>⟨p,h.same e1 e2⟩
 pMiss:=λ_ _ _ _ _ q=>(by rcases q with q|q|q<;>cases q)
 pAcc:=λ_ _ _ _ hk _ _=>hk
 pSet:=λ_ _ _ hk _ _=>hk
 pVic:=λ_ _ _ _ _ q=>(by rcases q with q|q|q<;>cases q)
 pRem:=λ_ _ hk _ _=>hk
 okMiss:=λh _ _ _=>h
 okNew:=λ⟨p,h⟩ _ h1 _ hk h0 _=>⟨_,h.come hk h0 h1 (λx=>mem_back)⟩
 okOld:=λ{m s pg ev id k} ⟨p,h⟩ _ h1 hk h0=>⟨p,h.perm (λx=>by
  show x∈backL s.1 k↔_
  rw[mem_back];exact⟨λq=>q.elim _root_.id (λq=>q▸(h.mem k).2 ⟨hk,by omega⟩),.inl⟩)⟩
 okSet:=λ{m s pg ev k} b ⟨p,h⟩ _ hk hx=>by
  have hm:k∈s.1:=(h.mem k).2 ⟨hk,hx⟩;refine⟨p,?_⟩
  show RowsOk n (λf=>f∈s.1) p (setL s.1 s.2 k b) pg _
  unfold setL;rw[if_pos hm];exact h.set hm b
 okRem:=λ{m s pg ev k} ⟨p,h⟩ _ hk hx=>by
  have hm:k∈s.1:=(h.mem k).2 ⟨hk,hx⟩;refine⟨p,?_⟩
  show RowsOk n (λf=>f∈awayL s.1 k) p (setL s.1 s.2 k false) _ _
  unfold setL;rw[if_pos hm];exact h.go (λx=>mem_away)
 goer:=λ{m s pg ev id x} ⟨p,h⟩ hv=>by
  have hv:s.1.find? s.2=some x:=hv;exact h.goer (List.mem_of_find?_eq_some hv) (List.find?_some hv)
 some:=λ{m s pg ev id} ⟨p,h⟩ ⟨x,hx⟩ hv=>by
  have hv:s.1.find? s.2=none:=hv;obtain⟨q1,q2⟩:=h.at hx;have:=List.find?_eq_none.1 hv x q1;exact this q2
 okGone:=λ{m s pg ev id x} ⟨p,h⟩ _ h1 hn hv=>by
  have hv:firstL s.1 s.2=some x:=hv;have hm:x∈s.1:=List.mem_of_find?_eq_some hv;have hg:lruPol.gone s id=lruRem s x:=by show(match firstL s.1 s.2 with|none=>s|some f=>lruRem s f)=_;rw[hv]
  rw[hg];refine⟨p,?_⟩
  show RowsOk n (λf=>f∈awayL s.1 x) p (setL s.1 s.2 x false) _ _
  unfold setL;rw[if_pos hm];exact h.go (λy=>mem_away)
theorem rep4(pb b n:Nat):RepSys (advOf lruPol) (lruCR b n) pb (repV4 b) n (ok4 n):=repOf (lru_cod b n) (clo4 b) (okS4 n)
def ok6(n:Nat)(m:Nat)(t:T6)(pg:Nat->Nat)(ev:Nat->Bool):Prop:=RowsOk n (λf=>f∈t.nw\/f∈t.mn) t.page t.ev pg ev
theorem away_or{a b:List Nat}{k x:Nat}:(x∈awayN a k\/x∈awayN b k)↔(x∈a\/x∈b)/\¬x=k:=by
 simp only[awayN,List.mem_filter];by_cases c:x=k<;>simp[c]
theorem goes6{t:T6}{inn x:Nat}(h:t.goes inn=some x):(x∈t.nw\/x∈t.mn)/\t.ev x=true:=by
 unfold T6.goes at h
 split at h
 .exact find_or h
 .exact(find_or h).imp Or.symm id
theorem goes6_no{t:T6}{inn x:Nat}(h:t.goes inn=none)(hx:x∈t.nw\/x∈t.mn):t.ev x=false:=by
 unfold T6.goes at h
 split at h
 .exact find_or_none h hx
 .exact find_or_none h hx.symm
theorem okS6(n inn out:Nat):OkSys (polT inn out) (preT n) n (ok6 n) where
 more:=λh _=>h
 same:=λh e1 e2=>RowsOk.same h e1 e2
 pMiss:=λ_ _ _ _ _=>⟨λq=>(by rcases q with q|q|q<;>cases q),λq=>(by cases q)⟩
 pAcc:=λ{m s pg ev id k} h _ h1 h2 hk hx=>⟨λ_=>hk,λ_=>⟨h2,by
  rcases hx with q|⟨q,q2⟩
  .exact .inl ((h.mem k).2 ⟨hk,by omega⟩)
  .exact .inr (λg hg e=>q2 g ((h.mem g).1 hg).1 (by rw[<-h.tp g hg];exact e))⟩⟩
 pSet:=λ_ _ _ hk _=>⟨λ_=>hk,λq=>(by cases q)⟩
 pVic:=λ_ _ _ _ _=>⟨λq=>(by rcases q with q|q|q<;>cases q),λq=>(by cases q)⟩
 pRem:=λ_ _ hk _=>⟨λ_=>hk,λq=>(by cases q)⟩
 okMiss:=λh _ _ _=>h
 okNew:=λ{m s pg ev id k} h _ h1 _ hk h0 _=>by
  have hn:¬(k∈s.nw\/k∈s.mn):=λq=>((h.mem k).1 q).2 h0
  show ok6 n _ (s.acc k id) _ _
  unfold T6.acc;rw[if_neg (λq=>hn (.inl q)),if_neg (λq=>hn (.inr q))];unfold T6.come
  split
  .exact RowsOk.come h hk h0 h1 (λx=>by simp only[List.mem_append,List.mem_singleton,or_assoc])
  .exact RowsOk.come h hk h0 h1 (λx=>by simp only[List.mem_append,List.mem_singleton];exact or_right_comm)
 okOld:=λ{m s pg ev id k} h _ h1 hk h0=>by
  have hn:k∈s.nw\/k∈s.mn:=(h.mem k).2 ⟨hk,by omega⟩
  show ok6 n _ (s.acc k id) _ _
  unfold T6.acc
  split
  .exact h
  .rename_i q
   have hm:=hn.resolve_left q;rw[if_pos hm];refine RowsOk.perm h (λx=>?_);simp only[List.mem_append,List.mem_singleton,awayN,List.mem_filter];by_cases c:x=k
   .subst c;simp[hm]
   .simp[c]
 okSet:=λ{m s pg ev k} b h _ hk hx=>by
  have hn:k∈s.nw\/k∈s.mn:=(h.mem k).2 ⟨hk,hx⟩
  show ok6 n _ (s.setE k b) _ _
  unfold T6.setE;rw[if_pos hn];exact RowsOk.set h hn b
 okRem:=λ{m s pg ev k} h _ hk hx=>by
  have hn:k∈s.nw\/k∈s.mn:=(h.mem k).2 ⟨hk,hx⟩
  show ok6 n _ (s.rem k) _ _
  unfold T6.rem;rw[if_pos hn];exact RowsOk.go h (λx=>away_or)
 goer:=λ{m s pg ev id x} h hv=>by
  obtain⟨q1,q2⟩:=goes6 (show s.goes inn=some x from hv);exact RowsOk.goer h q1 q2
 some:=λ{m s pg ev id} h ⟨x,hx⟩ hv=>by
  obtain⟨q1,q2⟩:=RowsOk.at h hx;have:=goes6_no (show s.goes inn=none from hv) q1;rw[this]at q2;cases q2
 okGone:=λ{m s pg ev id x} h _ h1 hn hv=>by
  have hv:s.goes inn=some x:=hv;obtain⟨q1,_⟩:=goes6 hv;have hg:(polT inn out).gone s id=s.gone out x:=by show(match s.goes inn with|none=>s|some f=>s.gone out f)=_;rw[hv]
  rw[hg];unfold T6.gone T6.rem
  repeat' split
  all_goals first|exact RowsOk.go h (λx=>away_or)|exact absurd q1 (by assumption)
theorem rep6(pb b n inn out:Nat):RepSys (advOf (polT inn out)) (CRT b n inn out) pb (repV6 b) n (ok6 n):=repOf (cod6 b n inn out) (clo6 b) (okS6 n inn out)
def ok7(n:Nat)(m:Nat)(t:T7)(pg:Nat->Nat)(ev:Nat->Bool):Prop:=RowsOk n (λf=>f∈t.nw\/f∈t.mn) t.page t.ev pg ev
theorem goes7{t:T7}{id x:Nat}(h:t.goes id=some x):(x∈t.nw\/x∈t.mn)/\t.ev x=true:=by
 unfold T7.goes T7.goesC at h
 split at h
 .exact find_or h
 .exact(find_or h).imp Or.symm _root_.id
theorem goes7_no{t:T7}{id x:Nat}(h:t.goes id=none)(hx:x∈t.nw\/x∈t.mn):t.ev x=false:=by
 unfold T7.goes T7.goesC at h
 split at h
 .exact find_or_none h hx
 .exact find_or_none h hx.symm
theorem okS7(n:Nat):OkSys (polA n) (preA n) n (ok7 n) where
 more:=λh _=>h
 same:=λh e1 e2=>RowsOk.same h e1 e2
 pMiss:=λ_ _ _ h2 _=>⟨λq=>(by rcases q with q|q|q<;>cases q),λq=>(by cases q),λ_=>h2⟩
 pAcc:=λ{m s pg ev id k} h _ h1 h2 hk hx=>⟨λ_=>hk,λ_=>⟨h2,by
  rcases hx with q|⟨q,q2⟩
  .exact .inl ((h.mem k).2 ⟨hk,by omega⟩)
  .exact .inr (λg hg e=>q2 g ((h.mem g).1 hg).1 (by rw[<-h.tp g hg];exact e))⟩,λq=>(by rcases q with q|q<;>cases q)⟩
 pSet:=λ_ _ _ hk _=>⟨λ_=>hk,λq=>(by cases q),λq=>(by rcases q with q|q<;>cases q)⟩
 pVic:=λ_ _ _ h2 _=>⟨λq=>(by rcases q with q|q|q<;>cases q),λq=>(by cases q),λ_=>h2⟩
 pRem:=λ_ _ hk _=>⟨λ_=>hk,λq=>(by cases q),λq=>(by rcases q with q|q<;>cases q)⟩
 okMiss:=λ{m s pg ev id} h _ _ _=>by
  show ok7 n _ (s.miss n id) _ _
  unfold T7.miss
  repeat' split
  all_goals exact h
 okNew:=λ{m s pg ev id k} h _ h1 _ hk h0 _=>by
  have hn:¬(k∈s.nw\/k∈s.mn):=λq=>((h.mem k).1 q).2 h0
  show ok7 n _ (s.acc k id) _ _
  unfold T7.acc;rw[if_neg hn]
  split
  .exact RowsOk.come h hk h0 h1 (λx=>by simp only[List.mem_append,List.mem_singleton,or_assoc])
  .exact RowsOk.come h hk h0 h1 (λx=>by simp only[List.mem_append,List.mem_singleton];exact or_right_comm)
 okOld:=λ{m s pg ev id k} h _ h1 hk h0=>by
  have hn:k∈s.nw\/k∈s.mn:=(h.mem k).2 ⟨hk,by omega⟩
  show ok7 n _ (s.acc k id) _ _
  unfold T7.acc;rw[if_pos hn];refine RowsOk.perm h (λx=>?_);simp only[List.mem_append,List.mem_singleton,awayN,List.mem_filter];by_cases c:x=k
  .subst c;simp[hn]
  .simp[c]
 okSet:=λ{m s pg ev k} b h _ hk hx=>by
  have hn:k∈s.nw\/k∈s.mn:=(h.mem k).2 ⟨hk,hx⟩
  show ok7 n _ (s.setE k b) _ _
  unfold T7.setE;rw[if_pos hn];exact RowsOk.set h hn b
 okRem:=λ{m s pg ev k} h _ hk hx=>by
  have hn:k∈s.nw\/k∈s.mn:=(h.mem k).2 ⟨hk,hx⟩
  show ok7 n _ (s.rem k) _ _
  unfold T7.rem;rw[if_pos hn];exact RowsOk.go h (λx=>away_or)
 goer:=λ{m s pg ev id x} h hv=>by
  obtain⟨q1,q2⟩:=goes7 (show s.goes id=some x from hv);exact RowsOk.goer h q1 q2
 some:=λ{m s pg ev id} h ⟨x,hx⟩ hv=>by
  obtain⟨q1,q2⟩:=RowsOk.at h hx;have:=goes7_no (show s.goes id=none from hv) q1;rw[this]at q2;cases q2
 okGone:=λ{m s pg ev id x} h _ h1 hn hv=>by
  have hv:s.goes id=some x:=hv;obtain⟨q1,_⟩:=goes7 hv;have hg:(polA n).gone s id=s.gone n id x:=by show(match s.goes id with|none=>s|some f=>s.gone n id f)=_;rw[hv]
  rw[hg];unfold T7.gone T7.rem T7.keep
  repeat' split
  all_goals first|exact RowsOk.go h (λx=>away_or)|exact absurd q1 (by assumption)
theorem rep7(pb b n:Nat):RepSys (advOf (polA n)) (CRA b n) pb (repV7 b) n (ok7 n):=repOf (cod7 b n) (clo7 b) (okS7 n)
end
end Go.Proofs.YtpkbkhffglikhaaGreatDoor
