/- Part 44. -/
import Derived.Test.YtpkbkhffglikhaaGreatDoorM43
namespace Go.Proofs.YtpkbkhffglikhaaGreatDoor
set_option linter.all false
set_option maxHeartbeats 16000000
set_option maxRecDepth 100000
section
open Go.Maps Go.RowKit
theorem SlZ.cut{w:World}{a:Option Addr}{c:Nat}{l:List Int}(h:SlZ w (.slice a l.length c) l)(k:Nat)(hk:k<=l.length):SlZ w (.slice a k c) (l.take k):=by
 have e:(l.take k).length=k:=by rw[List.length_take];omega
 by_cases hc:0<c
 .obtain⟨b,off,rfl,h1⟩:=SlC.cut (lo:=0) (hi:=k) h (by omega) hk rfl hc
  simp only[Nat.zero_mul,Nat.add_zero,Nat.sub_zero,List.drop_zero,Nat.mul_one]at h1;unfold SlZ;rw[e,List.map_take];exact h1
 .obtain⟨_,_,e1,q1,_⟩:=h.shape
  simp only[Value.slice.injEq]at e1;obtain⟨rfl,_,rfl⟩:=e1;obtain rfl:k=l.length:=by omega
  rw[List.take_length];exact h
section
variable{db m id:Nat}{ids:List Nat}{val:Nat->Nat}{v:Value}{w w0 w':World}{F:Nat->Prop}{R2:World->(Nat->Prop)->Prop}
theorem Duo.fin{R1:World->(Nat->Prop)->Prop}(h:Duo R1 R2 w0 w):Fr NoF w0 w:=by
 obtain⟨h0,F,G,h1,h2,h3,h4,h5⟩:=h;exact h5
end
end
section
open Go.Maps Go.Proofs.Tryz Go.RowKit
theorem cntB14_le_k(k:Nat)(g:Nat->Bool):cntB14 k g<=k:=by
 induction k with
 |zero=>exact Nat.le_refl _
 |succ k ih=>unfold cntB14;split<;>omega
theorem counts_walk(a0 a1:Int)(v av:Value)(zs:List OpZ)(l:List Int)(w:World)(hv:ArgZ w v zs)(ha:SlZ w av l)(hT:TabT w):Calls prog 4 #[.agg #[.int .i64 a0,.int .i64 a1],v,av] w λe w'=>e=.returned (.bool true)/\Fr NoF w w':=by
 obtain⟨sa,sc,ev,q1,q2,hcells,hrng⟩:=hv;subst ev;obtain⟨aa,ac,rfl,p1,p2⟩:=SlC.shape ha;unfold maxLen at q2 p2;have HCE:=Hd hcells;have HRG:=Hd hrng;have HAD:=Hd ha;have HT:=Hd hT;clear hcells hrng ha hT;obtain⟨n,hn1,hn2,en⟩:=modu1 a0 (k:=6) (by decide) (by decide);obtain⟨ka,hka,ea⟩:=modu a1 (k:=6) (by decide) (by decide);have EN:=Hd en;have EA:=Hd ea;clear en ea;go_enter func4,ntmps4
 go_wp2_with fail
 go_quiet (fail)
 rw[EN.out,EA.out]
 go_wp2_with fail
 have HK:Hid ((min (l.length:Int) 200).toNat<=l.length/\(min (l.length:Int) 200).toNat<=200):=⟨by omega,by omega⟩;generalize(min (l.length:Int) 200).toNat=k at*;have HA2:=Hd (HAD.out.cut k HK.out.1);have hlk:(l.take k).length=k:=by rw[List.length_take];have:=HK.out.1;omega
 have hl2:(l.take k).length<=65535:=by have:=HK.out.2;omega
 generalize l.take k=L at*;subst hlk;clear HAD HK EN p1 EA;have f0:Hid (Fr NoF w ((w.alloc (.cells #[.int .i64 a0,.int .i64 a1] 45)).drewN nq)):=((Fr.refl NoF w).alloc _).drewN nq;refine(pair_calls ka ka (by omega) (by omega) _ ⟨by omega,by omega⟩ (HA2.out.keep f0.out) hl2 (HT.out.fr0 f0.out)).mono ?_;rintro e w1⟨p1,p2,k1,k2,rfl,h1⟩;have K1:=Hd k1;have K2:=Hd k2
 have H1:Hid (Duo (AnyK p1 (decide (ka<5)) 0 0 (λ_=> -1) (am0 12) 1000) (AnyP p2 (decide (ka<5)) (am0 12) 1000) w w1):=by
  obtain⟨c0,F,G,c1,c2,c3,c4,c5⟩:=h1;exact⟨HT.out.lt,F,G,c1,c2.any,c3,λi q=>Nat.le_trans f0.out.size (c4 i q),f0.out.trans c5 (λ_ q=>q.elim)⟩
 clear k1 k2 h1 HA2;unfold PP.ptr
 go_wp2_with fail
 refine(toldP_calls (HT.out.fr0 H1.out.fin)).mono ?_;rintro e w2⟨rfl,f2⟩;have H2:=Hd (H1.out.frm anyKFrm anyFrm f2);clear f2 H1
 go_wp2_with fail
 go_loopw [13,14,15] (λsf sw i wr=>∃j nf nw r c:Nat,∃g:Nat->Int,j<=zs.length/\sf=.int .i64 nf/\sw=.int .i64 nw/\i=.int .i64 j/\j<=150/\r<=nf/\c<=nw/\nf<=j/\nw<=j/\∃M:AM,Duo (AnyK p1 (decide (ka<5)) r c g M (1000+100*j)) (AnyP p2 (decide (ka<5)) M (1000+100*j)) w wr) (λ_ _ i _=>zs.length-(intOf i).toNat)
 case atStart=>exact⟨0,0,0,0,0,_,Nat.zero_le _,rfl,rfl,rfl,Nat.zero_le _,Nat.le_refl _,Nat.le_refl _,Nat.le_refl _,Nat.le_refl _,_,H2.out⟩
 case round=>
  obtain⟨j,nf,nw,r,c,g,hj,rfl,rfl,rfl,hj2,hr,hc,hnf,hnw,M,hE⟩:=hrel;have HF0:=Hd hE.fin;by_cases hgo:j<zs.length/\j<150
  .obtain⟨hlt,h150⟩:=hgo
   obtain⟨xb,xo,rfl,hxb,hcell⟩:=HCE.out (by omega);obtain⟨cz0,cz1,cz2⟩:=hcell j zs[j] (List.getElem?_eq_getElem hlt);have HU:=Hd (HRG.out zs[j] (List.getElem_mem hlt));rw[<-HF0.out.cell (p:=⟨xb,xo+j*3,none⟩) hxb id]at cz0;rw[<-HF0.out.cell (p:=⟨xb,xo+j*3+1,none⟩) hxb id]at cz1;rw[<-HF0.out.cell (p:=⟨xb,xo+j*3+2,none⟩) hxb id]at cz2;generalize zs[j]=z at cz0 cz1 cz2 HU;obtain⟨zk,zi,zx⟩:=z;simp only at cz0 cz1 cz2 HU;clear hcell;have hsz:=HF0.out.size;obtain⟨jj,hjj,ek⟩:=modu zk (k:=8) (by decide) (by decide);have HB:=Hd (hE.addB anyKFrm anyFrm zk zi zx);have EK:=Hd ek;clear hE HF0 H2
   go_wp2_with fail
   rw[ek];clear ek cz0 cz1 cz2;generalize wr.alloc _=wa at*;generalize wr.heap.size=b at*;have t0:wa.cell? ⟨b,0,none⟩=some (.int .i64 zk):=HB.out.blkB.cell (i:=0) (by omega);have t1:wa.cell? ⟨b,1,none⟩=some (.int .u32 zi):=HB.out.blkB.cell (i:=1) (by omega);have t2:wa.cell? ⟨b,2,none⟩=some (.int .u64 zx):=HB.out.blkB.cell (i:=2) (by omega);have tl:=HB.out.blkB.lt
   have HR1:Hid (∀d,Calls prog 14 #[.pointer (some ⟨p1.db,0,none⟩)] (wa.drewN d) λe w'=>e=.returned (.int .i64 (r:Nat))/\wa.drewN d=w'):=λd=>by
    obtain⟨F,h⟩:=(HB.out.frm anyKFrm (withB.frm anyFrm) ((Fr.refl NoF wa).drewN d)).one;exact h.reads
   have HF1:Hid (∀d,Calls prog 15 #[p1.ptr,.int .u32 zi] (wa.drewN d) λe w'=>e=.returned (.int .i64 (g zi))/\wa.drewN d=w'):=λd=>by
    obtain⟨F,h⟩:=(HB.out.frm anyKFrm (withB.frm anyFrm) ((Fr.refl NoF wa).drewN d)).one;exact h.ask HU.out.1
   have HS:Hid (∀W,Fr NoF wa W->Calls prog 7 #[p1.ptr,p2.ptr,.agg #[.int .i64 zk,.int .u32 zi,.int .u64 zx]] W λe w'=>e=.returned (.bool true)/\∃M' r' g',r'<=r+(if jj=1 then 1 else 0)/\(¬jj=1\/0<=g zi->r'=r)/\Duo (AnyK p1 (decide (ka<5)) r' (c+moreW jj M' zi) g' M' (1000+100*j+100)) (withB (AnyP p2 (decide (ka<5)) M' (1000+100*j+100)) b (opC3 zk zi zx)) w w'):=λW f=>
    (count_calls (by rw[K1.out];omega) (by rw[K1.out,K2.out]) (HB.out.frm anyKFrm (withB.frm anyFrm) f) (by omega) zk HU.out.1 HU.out.2 (by omega) EK.out).mono λe w' ⟨he,M',h⟩=>by
     obtain⟨r',g',⟨z1,z2⟩,h2⟩:=h.exL;exact⟨he,M',r',g',z1,z2,h2⟩
   unfold PP.ptr at HF1 HS;have hth:decide (g zi>=0)=decide (0<=g zi):=rfl
   go_quiet (first|(go_at_call 14;with_reducible exact qs (HR1.out _))|(go_at_call 15;with_reducible exact qs (HF1.out _)))
   go_wp2_with fail
   refine(HS.out _ ((Fr.refl NoF wa).drewN nq)).mono ?_;rintro e w5⟨rfl,M',r',g',z1,z2,h5⟩;have H5:=Hd h5;obtain⟨F5,hk5⟩:=h5.one;have HRd:=Hd hk5.reads;obtain⟨x,hx,hw⟩:=hk5.writes;have HWr:=Hd hw;have HPi:=Hd (hk5.any.pi (id:=zi) HU.out.1);have HFr:Hid (∀id,id<14->Calls prog 15 #[p1.ptr,.int .u32 (id:Nat)] w5 λe w'=>e=.returned (.int .i64 (g' id))/\w5=w'):=λid h=>hk5.ask (by omega)
   have HN:Hid (cntB14 14 (λx=>decide (0<=g' x))<=n):=by rw[<-K1.out];exact hk5.few 14
   have u1:w5.cell? ⟨b,1,none⟩=some (.int .u32 zi):=h5.blkB.cell (i:=1) (by omega);unfold PP.ptr at HPi HFr;clear h5 hk5 hw HS HR1 HF1 HB t0 t1 t2 tl hth
   obtain⟨nf',nw',hnf',hnw',hr',hc',hca⟩:∃nf' nw':Nat,nf'<=j+1/\nw'<=j+1/\r'<=nf'/\c+moreW jj M' zi<=nw'/\((jj=1/\0<=g zi/\r'=r/\nf'=nf+1/\nw'=nw)\/(jj=1/\¬0<=g zi/\nf'=nf+1/\nw'=nw)\/(jj=4/\0<M'.pin zi/\r'=r/\nf'=nf/\nw'=nw+1)\/(jj=4/\¬0<M'.pin zi/\r'=r/\nf'=nf/\nw'=nw)\/(¬jj=1/\¬jj=4/\r'=r/\nf'=nf/\nw'=nw)):=by
    unfold moreW;by_cases j1:jj=1
    .rw[if_pos j1]at z1
     rw[if_neg (by omega)];by_cases t:0<=g zi
     .exact⟨nf+1,nw,by omega,by omega,by omega,by omega,.inl ⟨j1,t,z2 (.inr t),rfl,rfl⟩⟩
     .exact⟨nf+1,nw,by omega,by omega,by omega,by omega,.inr (.inl ⟨j1,t,rfl,rfl⟩)⟩
    .rw[if_neg j1]at z1
     have e:=z2 (.inl j1);by_cases j4:jj=4
     .by_cases t:0<M'.pin zi
      .rw[if_pos ⟨j4,t⟩]
       exact⟨nf,nw+1,by omega,by omega,by omega,by omega,.inr (.inr (.inl ⟨j4,t,e,rfl,rfl⟩))⟩
      .rw[if_neg (λq=>t q.2)]
       exact⟨nf,nw,by omega,by omega,by omega,by omega,.inr (.inr (.inr (.inl ⟨j4,t,e,rfl,rfl⟩)))⟩
     .rw[if_neg (λq=>j4 q.1)]
      exact⟨nf,nw,by omega,by omega,by omega,by omega,.inr (.inr (.inr (.inr ⟨j1,j4,e,rfl,rfl⟩)))⟩
   have hxw:x<=nw':=Nat.le_trans hx hc';have HEND:=Hd (And.intro hr' hc');have HFI:=Hd H5.out.dropB;clear hr hc z1 z2 hx hc' EK hjj H5;generalize c+moreW jj M' zi=c' at*;have f1:¬((nf':Int)<(r':Int)):=by omega
   have f2:¬((nw':Int)<(x:Int)):=by omega
   have hne:(¬jj=1->((jj:Int)==1)=false)/\(¬jj=4->((jj:Int)==4)=false):=⟨λq=>by simp;omega,λq=>by simp;omega⟩;rcases hca with⟨rfl,t,rfl,rfl,rfl⟩|⟨rfl,t,rfl,rfl⟩|⟨rfl,t,rfl,rfl,rfl⟩|⟨rfl,t,rfl,rfl,rfl⟩|⟨n1,n4,rfl,rfl,rfl⟩
   all_goals try have d1:=decide_eq_true t
   all_goals try have d2:=decide_eq_false t
   all_goals try have d3:(decide ((M'.pin zi:Int)>0))=true:=decide_eq_true (by omega)
   all_goals try have d4:(decide ((M'.pin zi:Int)>0))=false:=decide_eq_false (by omega)
   all_goals try(have d5:=hne.1 n1;have d6:=hne.2 n4)
   all_goals try have f3:¬((nf:Int)+1<(r':Int)):=by omega
   all_goals try have f4:¬((nw:Int)+1<(x:Int)):=by omega
   all_goals try have f5:¬(nw+1<x):=by omega
   all_goals try have f6:¬(nw'<x):=by omega
   all_goals try have f7:¬(nf+1<r'):=by omega
   all_goals try have f8:¬(nf'<r'):=by omega
   all_goals clear hne
   all_goals go_wp2_with fail
   all_goals try(refine HPi.out.mono ?_;rintro e w6⟨rfl,rfl⟩;go_wp2_with fail)
   all_goals try(refine HRd.out.mono ?_;rintro e w6⟨rfl,rfl⟩;go_wp2_with fail)
   all_goals try(refine HRd.out.mono ?_;rintro e w6⟨rfl,rfl⟩;go_wp2_with fail)
   all_goals try(refine HWr.out.mono ?_;rintro e w6⟨rfl,rfl⟩;go_wp2_with fail)
   all_goals
    clear HPi HRd HWr u1 f1 f2
    try clear f3
    try clear f4
    try clear f5
    try clear f6
    try clear f7
    try clear f8
    try clear d1
    try clear d2
    try clear d3
    try clear d4
    try clear d5 d6
    try clear t
    try clear n1 n4
    go_hide hQ2
    go_loopw [20,21] (λs20 s21 wq=>∃kk:Nat,kk<=14/\s20=.int .i64 (cntB14 kk (λx=>decide (0<=g' x)):Nat)/\s21=.int .u32 kk/\w5=wq) (λ_ i _=>14-(intOf i).toNat)
    case atStart=>exact⟨0,by omega,rfl,rfl,rfl⟩
    case round=>
     obtain⟨kk,hkk,rfl,rfl,rfl⟩:=hrel;have hle:=cntB14_le_k kk (λx=>decide (0<=g' x));by_cases hlk:kk<14
     .have HQ:=Hd (HFr.out kk hlk)
      have HSU:Hid (cntB14 (kk+1) (λx=>decide (0<=g' x))=cntB14 kk (λx=>decide (0<=g' x))+if decide (0<=g' kk)=true then 1 else 0):=rfl;generalize cntB14 kk (λx=>decide (0<=g' x))=tk at*;by_cases hg:0<=g' kk
      .have hg2:decide (g' kk>=0)=true:=decide_eq_true hg
       rw[if_pos (decide_eq_true hg)]at HSU
       go_wp2_with fail
       refine HQ.out.mono ?_;rintro e w6⟨rfl,rfl⟩;go_wp2
       go_roundw
       case rel=>exact⟨kk+1,by omega,by rw[HSU.out];go_num,by go_num,by trivial⟩
       case measure=>simp[intOf];omega
      .have hg2:decide (g' kk>=0)=false:=decide_eq_false hg
       rw[if_neg (by simpa using hg)]at HSU
       go_wp2_with fail
       refine HQ.out.mono ?_;rintro e w6⟨rfl,rfl⟩;go_wp2
       go_roundw
       case rel=>exact⟨kk+1,by omega,by rw[HSU.out];rfl,by go_num,by trivial⟩
       case measure=>simp[intOf];omega
     .obtain rfl:kk=14:=by omega
      have hN:=HN.out;generalize cntB14 14 (λx=>decide (0<=g' x))=tk at*;have hN2:¬((n:Int)<(tk:Int)):=by omega
      clear hlk hkk;go_wp2;subst hQ2;go_wp2
      go_roundw
      case rel=>exact⟨j+1,_,_,_,_,_,by omega,rfl,rfl,by go_num,by omega,HEND.out.1,HEND.out.2,hnf',hnw',M',by rw[show 1000+100*(j+1)=1000+100*j+100 from by omega];exact HFI.out⟩
      case measure=>simp[intOf];omega
  .have hgo2:((j:Int)<(zs.length:Int)/\decide ((j:Int)<150)=false)\/decide ((j:Int)<(zs.length:Int))=false:=by
    by_cases c:j<zs.length
    .exact .inl ⟨by omega,by simp;omega⟩
    .exact .inr (by simp;omega)
   clear hE H2;rcases hgo2 with⟨d1,d2⟩|d1
   all_goals go_wp2
   all_goals go_returns
   all_goals exact⟨rfl,HF0.out⟩
end
end Go.Proofs.YtpkbkhffglikhaaGreatDoor
