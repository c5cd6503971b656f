/- Part 46. -/
import Derived.Test.YtoenclhimbpfeaaGreatDoorW45
import Derived.Test.YtoenclhimbpfeaaGreatDoorW41
namespace Go.Proofs.YtoenclhimbpfeaaGreatDoor
set_option linter.all false
set_option maxHeartbeats 16000000
set_option maxRecDepth 100000
section
open Go.Maps Go.Proofs.Tryz Go.RowKit
def DE:Nat->ByteArray:=λk=>match k with|0=>⟨#[108,114,117]⟩|1=>⟨#[108,114,117,107]⟩|2=>⟨#[116,119,111,113]⟩|3=>⟨#[97,114,99]⟩|_=>⟨#[112,114,111]⟩
section
variable{w w':World}{n:Nat}
theorem AU(k:Nat)(hk:k<5)(w:World)(h:1<=n/\n<=65535):Calls prog 14 #[.string (DE k),.int .i64 n] w λe w'=>∃rv,e=.returned rv/\∃F,co n true rv w' F/\(∀i,F i->w.heap.size<=i)/\Fr NoF w w':=by
 have HN:=Hd h;obtain⟨h1,h2⟩:=h;have hd4:=GY h2;have hd2:=Ho h2;rcases(by omega:k=0\/k=1\/k=2\/k=3\/k=4)with rfl|rfl|rfl|rfl|rfl
 all_goals
  simp only[DE];go_enter func14,ntmps14
  go_wp2_with fail
  first
   |refine(n4 _ HN.out).mono ?_
   |refine(n5 _ HN.out).mono ?_
   |refine(n6 _ HN.out).mono ?_
   |refine(n7 _ HN.out).mono ?_
   |refine(n8 _ HN.out).mono ?_
  rintro e w1⟨b,F,rfl,a1,a2,a3⟩;have KEY:=Hd (show∃F,co n _ _ w1 F/\(∀i,F i->w.heap.size<=i)/\Fr NoF w w1 from⟨F,a1,a2,a3⟩);clear a1 a2 a3;go_wp2;go_returns;exact⟨_,rfl,KEY.out⟩
end
section
variable{p:PP}{q:Bool}{M:AM}{m:Nat}{w:World}{F:Nat->Prop}{o:OpF}
theorem ma(h:au p q M m w F)(hm:m<59000)(hn:p.n<=64)(ho:o.ok)(ht:0<w.heap.size)(hk:o.k=6):
  Calls prog 21 #[p.ptr,o.val] w λe w'=>e=.returned (⟨0,0,0⟩:AnF).val/\Led (au p q M (m+100)) F w w':=by
 obtain⟨k,pg,v⟩:=o;obtain⟨_,rfl,hA,b0,ke⟩:=b7 h ht k pg v;unfold OpF.val;simp only at hk;have KE:=Hd ke;have HA:=Hd hA;have B0:=Hd b0;have hid0:=ho.1;have hv0:=ho.2.1;clear h b0 hA ho ke;go_enter func21,ntmps21;subst hk
 go_wp2_with fail
 refine(HA.out.fa (by omega) hn).mono ?_;rintro e w1⟨rfl,hl1⟩;obtain⟨c1,c2,c3⟩:=KE.out _ _ w1 (hl1.mono (λF' h'=>jU.any h'));have HR:=Hd ((((c1.other (a:=⟨w.heap.size+1+1,0,none⟩) (by simp) (.int .i64 0)).set 0 (.int .i64 0)).set 1 (.int .u32 0)).set 2 (.int .u64 0));have HL:=Hd (c3 ((((w1.setCell ⟨w.heap.size+1+1,0,none⟩ (.int .i64 0)).setCell ⟨w.heap.size+1,0,none⟩ (.int .i64 0)).setCell ⟨w.heap.size+1,1,none⟩ (.int .u32 0)).setCell ⟨w.heap.size+1,2,none⟩ (.int .u64 0)) (by repeat(first|exact Fr.refl _ _|refine Fr.setCell ?_ (.inl (by first|exact .inl rfl|exact .inr rfl)) _)));obtain⟨a0,a1,a2,d0,d1,d2,z0,z1,z2,y0,y1,y2,l1,l2⟩:=aW c1 c2;clear c1 c2 c3 hl1
 go_wp2_with fail
 (try simp only[Exit.inBlock,Exit.then])
 refine bodyPost_ret (af Tryz.results21 _ _ HR.out rfl underlying48 rfl (by kernel_rfl)) rfl ?_;exact⟨rfl,HL.out⟩
end
theorem xY{p:PP}{q:Bool}{M:AM}{m:Nat}{w:World}{F:Nat->Prop}{o:OpF}(h:au p q M m w F)(hm:m<59000)(hn:p.n<=64)(ho:o.ok)(ht:0<w.heap.size):
  Calls prog 21 #[p.ptr,o.val] w λe w'=>e=.returned (M.call p.n o).1.val/\Led (au p q (M.call p.n o).2 (m+100)) F w w':=by
 unfold AM.call;by_cases h0:o.k=0
 .rw[if_pos h0];exact AF h hm hn ho ht h0
 rw[if_neg h0];by_cases h1:o.k=1
 .rw[if_pos h1];exact tQ h hm hn ho ht h1
 rw[if_neg h1];by_cases h2:o.k=2
 .rw[if_pos h2];exact td h hm hn ho ht h2
 rw[if_neg h2];by_cases h3:o.k=3
 .rw[if_pos h3];exact wl h hm hn ho ht h3
 rw[if_neg h3];by_cases h4:o.k=4
 .rw[if_pos h4];exact rX h hm hn ho ht h4
 rw[if_neg h4];by_cases h5:o.k=5
 .rw[if_pos h5];exact tg h hm hn ho ht h5
 rw[if_neg h5];by_cases h6:o.k=6
 .rw[if_pos h6];exact ma h hm hn ho ht h6
 rw[if_neg h6];by_cases h7:o.k=7
 .rw[if_pos h7];exact rn h hm hn ho ht h7
 rw[if_neg h7];exact xA h hm hn ho ht (by omega)
def opW(L:List OpF)(j:Nat):OpF:=L.getD j ⟨6,0,0⟩
noncomputable def amW(n:Nat)(M:AM)(L:List OpF):Nat->AM
 |0=>M
 |j+1=>((amW n M L j).call n (opW L j)).2
noncomputable def anW(n:Nat)(M:AM)(L:List OpF)(j:Nat):AnF:=((amW n M L j).call n (opW L j)).1
def GG(a:AnF):Nat->Value:=λr=>match r with|0=>.int .i64 (a.e:Nat)|1=>.int .u32 (a.id:Nat)|_=>.int .u64 (a.v:Nat)
def gM(A:Nat->AnF)(j:Nat):Nat->Value:=λi=>if i/3<j then GG (A (i/3)) (i%3)else zAn (i%3)
theorem vT(A:Nat->AnF)(j:Nat):upd (upd (upd (gM A j) (j*3) (.int .i64 ((A j).e:Nat))) (j*3+1) (.int .u32 ((A j).id:Nat))) (j*3+2) (.int .u64 ((A j).v:Nat))=gM A (j+1):=by
 funext i
 have h0:(j*3)/3=j:=by omega
 have h1:(j*3+1)/3=j:=by omega
 have h2:(j*3+2)/3=j:=by omega
 by_cases e2:i=j*3+2
 .subst e2
  rw[upd_same];unfold gM;rw[if_pos (by omega),h2,show(j*3+2)%3=2 by omega];rfl
 rw[aa _ _ e2];by_cases e1:i=j*3+1
 .subst e1
  rw[upd_same];unfold gM;rw[if_pos (by omega),h1,show(j*3+1)%3=1 by omega];rfl
 rw[aa _ _ e1];by_cases e0:i=j*3
 .subst e0
  rw[upd_same];unfold gM;rw[if_pos (by omega),h0,show(j*3)%3=0 by omega];rfl
 rw[aa _ _ e0];unfold gM;by_cases hlt:i/3<j
 .rw[if_pos hlt,if_pos (by omega)]
 .rw[if_neg hlt,if_neg (by omega)]
theorem Bl{N i:Nat}(hi:i<N)(A:Nat->AnF):(madeCells #[Value.int .i64 0,.int .u32 0,.int .u64 0] N)[i]?=some (gM A 0 i):=by
 rw[fJ hi];have h3:i%3<3:=Nat.mod_lt _ (by omega)
 show some (#[Value.int .i64 0,.int .u32 0,.int .u64 0]:Array Value)[i%3]! =_
 unfold gM;rw[if_neg (by omega)];generalize i%3=k at*
 match k,h3 with
 |0,_|1,_|2,_=>rfl
theorem rH(n:Nat)(hn:n<=1000)(w:World):(Instr.makeSlice 37 (.int .i64 (n:Int)) (.int .i64 (n:Int))).run prog w=.ok (.slice (some ⟨w.heap.size,0,none⟩) n n) (w.alloc (.cells (madeCells #[.int .i64 0,.int .u32 0,.int .u64 0] (n*3)) 48)):=
 mkN (z:=.agg #[.int .i64 0,.int .u32 0,.int .u64 0]) (b:=24) underlying37 (by kernel_rfl) rfl n (by omega) rfl w
section
variable{p:PP}{w w':World}{F:Nat->Prop}{n:Nat}{M:AM}{L:List OpF}
def RW(p:PP)(n:Nat)(M:AM)(L:List OpF)(j:Nat)(w:World)(F:Nat->Prop):Prop:=(j<=L.length/\au p true (amW n M L j) (1000+100*j) w F)\/(j=L.length+1/\jU p true (amW n M L L.length) (1000+100*j) w F)
theorem DR{j:Nat}:Frm (RW p n M L j) where
 lt:=λh=>h.elim (λh=>lD.lt h.2) (λh=>oq.lt h.2)
 fro:=λh f hG ht=>h.imp (λh=>⟨h.1,lD.fro h.2 f hG ht⟩) (λh=>⟨h.1,oq.fro h.2 f hG ht⟩)
theorem yA(hL:∀o∈L,o.ok)(j:Nat):(opW L j).ok:=by
 unfold opW;rw[List.getD_eq_getElem?_getD]
 cases e:L[j]? with
 |none=>exact⟨by decide,by decide,by decide,by decide⟩
 |some o=>exact hL o (List.mem_of_getElem? e)
theorem Cm{j:Nat}(hn:p.n=n)(h6:n<=6)(hj:j<L.length+1)(hl:L.length<=120)(hL:∀o∈L,o.ok)(h:RW p n M L j w F)(ht:0<w.heap.size):
  Calls prog 21 #[p.ptr,(opW L j).val] w λe w'=>e=.returned (anW n M L j).val/\Led (RW p n M L (j+1)) F w w':=by
 rcases h with⟨h1,h2⟩|⟨h1,h2⟩
 .by_cases hlt:j<L.length
  .have:=xY (o:=opW L j) h2 (by omega) (by omega) (yA hL j) ht
   rw[hn]at this;exact this.mono λe w' ⟨he,hl⟩=>⟨he,hl.mono (λF' h'=>.inl ⟨by omega,by rw[show 1000+100*(j+1)=1000+100*j+100 by omega];exact h'⟩)⟩
  .obtain rfl:j=L.length:=by omega
   have e1:opW L L.length=⟨6,0,0⟩:=by unfold opW;rw[List.getD_eq_getElem?_getD,List.getElem?_eq_none (Nat.le_refl _)];rfl
   have e2:anW n M L L.length=⟨0,0,0⟩:=by unfold anW;rw[e1];rfl
   rw[e1,e2];exact(zK (R':=jU p true (amW n M L L.length) (1000+100*L.length+100)) oq (λi q=>lD.lt h2 i q) ht (λW f=>(h2.fr0 f).fa (by omega) (by omega))).mono λe w' ⟨he,hl⟩=>⟨he,hl.mono (λF' h'=>.inr ⟨rfl,by rw[show 1000+100*(L.length+1)=1000+100*L.length+100 by omega];exact h'⟩)⟩
 .omega
end
end
end Go.Proofs.YtoenclhimbpfeaaGreatDoor
