/- Part 44. -/
import Derived.Test.YtoenclhimbpfeaaGreatDoorW38
namespace Go.Proofs.YtoenclhimbpfeaaGreatDoor
set_option linter.all false
set_option maxHeartbeats 16000000
set_option maxRecDepth 100000
section
open Go.Maps Go.Proofs.Tryz Go.RowKit
section
variable{w w':World}
theorem BS(n:Nat)(w:World)(h1:1<=n)(h2:n<=65535):Calls prog 35 #[.int .i64 n] w λe w'=>∃v h L lo hi,lo=w.heap.size/\hi=w'.heap.size/\e=.returned (.agg #[.int .i64 n,.int .i64 n,v])/\LS w' n (belowB n) v h L/\(∀k,LF v h L k->lo<=k/\k<hi)/\Fr NoF w w':=
 (sB n w h1 h2).mono λe w' ⟨v,h,L,he,q1,q2,q3⟩=>⟨v,h,L,_,_,rfl,rfl,he,q1,λk q=>⟨q2 k q,q1.r.lt k q⟩,q3⟩
theorem zG(n:Nat)(w:World)(h1:1<=n)(h2:n<=65535):Calls prog 36 #[.int .i64 n] w λe w'=>∃v h L lo hi,lo=w.heap.size/\hi=w'.heap.size/\e=.returned (.agg #[.int .i64 n,.int .i64 0,v])/\LS w' n aU v h L/\(∀k,LF v h L k->lo<=k/\k<hi)/\Fr NoF w w':=
 (jP n w h1 h2).mono λe w' ⟨v,h,L,he,q1,q2,q3⟩=>⟨v,h,L,_,_,rfl,rfl,he,q1,λk q=>⟨q2 k q,q1.r.lt k q⟩,q3⟩
theorem Ba{n b:Nat}(hb:b=w.heap.size):Blk (w.alloc (.cells (madeCells #[.int .u32 0,.int .u64 0,.int .i64 0,.bool false] (n*4)) 172)) b (n*4) (frV λ_=>zF):=by
 refine Blk.new w _ _ _ _ _ hb (size_madeCells _ _) (λi hi=>?_);rw[du hi];unfold frV;have h4:i%4=0\/i%4=1\/i%4=2\/i%4=3:=by omega
 show some (#[Value.int .u32 0,.int .u64 0,.int .i64 0,.bool false][i%4]!)=_
 rcases h4 with e|e|e|e<;>rw[e]<;>rfl
theorem CN{b:Nat}(hb:b=w.heap.size):MpV prog 34 .u32 (.int .i64 0) (w.alloc (.map #[] 0)) b 0 (plV λ_=>none):=by
 subst hb;have e:plV (λ_=>none)=λ_=>none:=by funext x;unfold plV;split<;>rfl
 rw[e];exact MpV.made _ _ _ _ _
theorem yY{b c:Nat}{m:Int->Option Value}(h:MpV prog 34 .u32 (.int .i64 0) w b c m):MpV prog 34 .u32 (.int .i64 0) w.drew b c m:=h.ofHeap rfl
theorem uz{bound:Nat}{S:Nat->Bool}{v:Value}{h:Nat->Nat}{L:Nat}(H:LS w bound S v h L)(f:Fr NoF w w'):LS w' bound S v h L:=⟨H.r.fr f (λ_ _ q=>q),H.dom⟩
theorem rz{a b c:World}(h:Fr NoF a b)(k:Fr NoF b c):Fr NoF a c:=h.trans k (λ_ q=>q.elim)
theorem Ap{X:World}{n db fb mb pb loE hiE loI hiI:Nat}{rv ev iv:Value}{eh ih:Nat->Nat}{eL iL:Nat}(hw:Fr NoF w X)(hpb:pb=X.heap.size)(hn:1<=n/\n<=65535)(ht:dE w)
  (hf:Blk X fb (n*4) (frV λ_=>zF))(hm:MpV prog 34 .u32 (.int .i64 0) X mb 0 (plV λ_=>none))(he:LS X n (belowB n) ev eh eL)(hi:LS X n aU iv ih iL)
  (b1:∀k,LF ev eh eL k->loE<=k/\k<hiE)(b2:∀k,LF iv ih iL k->loI<=k/\k<hiI)(d1:¬fb=mb/\w.heap.size<=fb/\w.heap.size<=mb/\w.heap.size<=loE/\w.heap.size<=loI)(d2:hiE<=loI\/hiI<=loE)(d3:(fb<loE\/hiE<=fb)/\(fb<loI\/hiI<=fb)/\(mb<loE\/hiE<=mb)/\(mb<loI\/hiI<=mb)):
  MP (X.alloc (.cells #[.pointer (some ⟨db,0,none⟩),rv,.slice (some ⟨fb,0,none⟩) n n,.map (some mb),.int .i64 n,.int .i64 n,ev,.int .i64 n,.int .i64 0,iv,.int .i64 0] 117)) ⟨n,pb,db,fb,mb,rv,ev,eh,eL,iv,ih,iL⟩ (λ_=>zF) (λ_=>none) (belowB n) aU 0 0/\
  (∀i,(PP.mk n pb db fb mb rv ev eh eL iv ih iL).own i->w.heap.size<=i)/\Fr NoF w (X.alloc (.cells #[.pointer (some ⟨db,0,none⟩),rv,.slice (some ⟨fb,0,none⟩) n n,.map (some mb),.int .i64 n,.int .i64 n,ev,.int .i64 n,.int .i64 0,iv,.int .i64 0] 117)):=by
 have fz:=(Fr.refl NoF X).alloc (.cells #[.pointer (some ⟨db,0,none⟩),rv,.slice (some ⟨fb,0,none⟩) n n,.map (some mb),.int .i64 n,.int .i64 n,ev,.int .i64 n,.int .i64 0,iv,.int .i64 0] 117);have lf:=hf.lt;have lm:=hm.lt;have le:=he.r.lt;have li:=hi.r.lt;have hs:=hw.size;have htl:=ht.lt
 have howns:∀i,(PP.mk n pb db fb mb rv ev eh eL iv ih iL).own i->w.heap.size<=i:=λi q=>by
  rcases q with q|q|q|q|q
  .have q':i=pb:=q;omega
  .have q':i=fb:=q;omega
  .have q':i=mb:=q;omega
  .have:=b1 i q;omega
  .have:=b2 i q;omega
 refine⟨⟨Blk.new X _ _ 11 _ _ hpb rfl (λi hi=>?_),hf.fr fz (λq=>q),⟨0,Nat.le_refl _,hm.fr fz (λq=>q)⟩,uz he fz,uz hi fz,⟨by show¬fb=pb;omega,by show¬mb=pb;omega,by show¬mb=fb;omega⟩,λi q=>?_,λi q=>?_,(ht.fr0 hw).fr0 fz,λq=>by have:=howns _ q;omega,Nat.le_refl _,λi=>⟨by show 0<_;omega,by show 0<_;omega,by show 0<=0;omega⟩⟩,howns,rz hw fz⟩
 .have e1:cntB (belowB n) n=n:=di n n (Nat.le_refl _)
  have e2:cntB aU n=0:=(pU n aU).2 (by
   cases e:fstB n aU with
   |none=>rfl
   |some x=>have:=(aS e).2.1;cases this)
  show _=some (pH _ (cntB (belowB n) n) (cntB aU n) 0 i)
  rw[e1,e2]
  match i,hi with
  |0,_|1,_|2,_|3,_|4,_|5,_|6,_|7,_|8,_|9,_|10,_=>rfl
 .have q':LF ev eh eL i:=q
  have r1:=b1 i q';have r2:=le i q';refine⟨by show¬i=pb;omega,by show¬i=fb;omega,by show¬i=mb;omega,λk=>?_⟩;have r3:=b2 i k;omega
 .have q':LF iv ih iL i:=q
  have r1:=b2 i q';have r2:=li i q';exact⟨by show¬i=pb;omega,by show¬i=fb;omega,by show¬i=mb;omega⟩
theorem xC{X:World}{n db fb mb loE hiE loI hiI:Nat}{rv ev iv:Value}{eh ih:Nat->Nat}{eL iL:Nat}{Post:Ending->World->Prop}(hw:Fr NoF w X)(hn:1<=n/\n<=65535)(ht:dE w)
  (hf:Blk X fb (n*4) (frV λ_=>zF))(hm:MpV prog 34 .u32 (.int .i64 0) X mb 0 (plV λ_=>none))(he:LS X n (belowB n) ev eh eL)(hi:LS X n aU iv ih iL)
  (b1:∀k,LF ev eh eL k->loE<=k/\k<hiE)(b2:∀k,LF iv ih iL k->loI<=k/\k<hiI)(d1:¬fb=mb/\w.heap.size<=fb/\w.heap.size<=mb/\w.heap.size<=loE/\w.heap.size<=loI)(d2:hiE<=loI\/hiI<=loE)(d3:(fb<loE\/hiE<=fb)/\(fb<loI\/hiI<=fb)/\(mb<loE\/hiE<=mb)/\(mb<loI\/hiI<=mb))
  (h:∀XW (p:PP),(p.n=n/\p.db=db/\p.rv=rv/\p.pb=X.heap.size/\p.mb=mb)->MP XW p (λ_=>zF) (λ_=>none) (belowB n) aU 0 0->(∀i,p.own i->w.heap.size<=i)->Fr NoF w XW->Calls prog 12 #[.pointer (some ⟨db,0,none⟩)] XW Post):
  Calls prog 12 #[.pointer (some ⟨db,0,none⟩)] (X.alloc (.cells #[.pointer (some ⟨db,0,none⟩),rv,.slice (some ⟨fb,0,none⟩) n n,.map (some mb),.int .i64 n,.int .i64 n,ev,.int .i64 n,.int .i64 0,iv,.int .i64 0] 117)) Post:=by
 obtain⟨q1,q2,q3⟩:=Ap (db:=db) (rv:=rv) hw rfl hn ht hf hm he hi b1 b2 d1 d2 d3;exact h _ _ ⟨rfl,rfl,rfl,rfl,rfl⟩ q1 q2 q3
def plK(ids:List Nat)(k:Nat):Nat->Option Int:=λid=>if id∈ids.take k then some (-1)else none
theorem FN(ids:List Nat):plK ids 0=λ_=>none:=by funext x;simp[plK]
theorem kE(ids:List Nat){k:Nat}(hk:k<ids.length)(y:Nat):y∈ids.take (k+1)↔y∈ids.take k\/y=ids[k]:=by
 rw[List.take_add_one,List.mem_append];simp[hk]
theorem AJ(ids:List Nat){k:Nat}(hk:k<ids.length):bN (plK ids k) ids[k] (some (-1))=plK ids (k+1):=by
 funext y
 by_cases e:y=ids[k]
 .rw[e,cq]
  unfold plK;rw[if_pos ((kE ids hk _).2 (.inr rfl))]
 .rw[bI _ _ e]
  unfold plK;by_cases q:y∈ids.take k
  .rw[if_pos q,if_pos ((kE ids hk y).2 (.inl q))]
  .rw[if_neg q,if_neg (λh=>((kE ids hk y).1 h).elim q e)]
theorem bK(w:World):w.drew.heap.size=w.heap.size:=rfl
theorem Cn(ids:List Nat):plK ids ids.length=λid=>if id∈ids then some (-1)else none:=by funext y;unfold plK;rw[List.take_length]
theorem xQ(n db:Nat){rv:Value}{it:TypeId}{iv0:Value}(hrv:rv=.iface it iv0)(w:World)(hn:1<=n/\n<=65535)(ht:dE w){ids:List Nat}(hil:ids.length<=1000)(hid:∀x∈ids,x<4294967296)(hP:∀W,Fr NoF w W->Calls prog 12 #[.pointer (some ⟨db,0,none⟩)] W λe w'=>∃v,e=.returned v/\OwK .u32 W.heap.size 34 w' v ids/\Fr NoF W w'):
  Calls prog 19 #[.pointer (some ⟨db,0,none⟩),.int .i64 n,rv] w λe w'=>∃p:PP,p.n=n/\p.db=db/\p.rv=rv/\e=.returned (.tuple #[p.ptr,.int .i64 0])/\MP w' p (λ_=>zF) (λid=>if id∈ids then some (-1)else none) (belowB n) aU 0 1000/\(∀i,p.own i->w.heap.size<=i)/\Fr NoF w w':=by
 subst hrv;obtain⟨i0,hi0,hz0,hz1,hz2⟩:=bq (P:=prog) (e:=172) (z:=.agg #[.int .u32 0,.int .u64 0,.int .i64 0,.bool false]) (s:=4) (b:=32) (by kernel_rfl)
 have mk1:∀(w:World),(Instr.makeSlice 110 (.int .i64 (n:Int)) (.int .i64 (n:Int))).run prog w=
   .ok (.slice (some ⟨w.heap.size,0,none⟩) n n) (w.alloc (.cells (madeCells #[.int .u32 0,.int .u64 0,.int .i64 0,.bool false] (n*4)) 172)):=by
  intro w;have:=run_make (P:=prog) w 110 172 i0 _ underlying110 hi0 hz0 .i64 .i64 (n:Int) (n:Int) (by omega) (Int.le_refl _) (by rw[hz2];omega) (by omega);rw[show(n:Int).toNat=n from by omega,hz1]at this;exact this
 have hmm:=@run_makeMap prog;have g1:decide ((n:Int)<1)=false:=by simp;omega
 have g2:decide (65535<(n:Int))=false:=by simp;omega
 have HNN:=Hd hn;have HP:=Hd hP;have HT:=Hd ht;have HID:=Hd hid;clear hi0 hz0 hz1 hz2 hn hP ht hid;go_enter func19,ntmps19
 go_upto_region 3 with fail
 clear g1 g2
 go_region_held3(λw'=>True)
  (trivial)
  (first
  |(go_at_call 35;(refine(BS n _ HNN.out.1 HNN.out.2).mono ?_);rintro e wE⟨ev,eh,eL,loE,hiE,zE1,zE2,rfl,k1,k2,fE⟩;have K1:=Hd k1;have K2:=Hd k2;have FE:=Hd fE;have ZE1:=Hd zE1;have ZE2:=Hd zE2;clear k1 k2 fE zE1 zE2)
  |(go_at_call 36;(refine(zG n _ HNN.out.1 HNN.out.2).mono ?_);rintro e wI⟨iv,ih,iL,loI,hiI,zI1,zI2,rfl,k3,k4,fI⟩;have K3:=Hd k3;have K4:=Hd k4;have FI:=Hd fI;have ZI1:=Hd zI1;have ZI2:=Hd zI2;clear k3 k4 fI zI1 zI2))
 all_goals
  go_wp2_with fail
  have a1:=ZE1.out;have a2:=ZE2.out;have a3:=ZI1.out;have a4:=ZI2.out;have a5:=FE.out.size;have a6:=FI.out.size
  (try simp only[ar,bK]at a1)
  (try simp only[ar,bK]at a2)
  (try simp only[ar,bK]at a3)
  (try simp only[ar,bK]at a4)
  (try simp only[ar,bK]at a5)
  (try simp only[ar,bK]at a6)
  refine xC
   (by repeat(first|(with_reducible exact Fr.refl NoF _)|(with_reducible refine Fr.alloc ?_ _)|(with_reducible refine Fr.drew ?_)|(with_reducible refine rz ?_ FE.out)|(with_reducible refine rz ?_ FI.out)))
   HNN.out HT.out
   (by repeat(first|((with_reducible refine Ba ?_);first|rfl|(simp only[ar];done)|simp)|(with_reducible refine Blk.alloc ?_ _)|(with_reducible refine Blk.drew ?_)|(with_reducible refine Blk.fr ?_ FE.out (λq=>q))|(with_reducible refine Blk.fr ?_ FI.out (λq=>q))))
   (by repeat(first|((with_reducible refine CN ?_);first|rfl|(simp only[ar];done)|simp)|(with_reducible refine MpV.alloc ?_ _)|(with_reducible refine yY ?_)|(with_reducible refine MpV.fr ?_ FE.out (λq=>q))|(with_reducible refine MpV.fr ?_ FI.out (λq=>q))))
   (uz K1.out (by repeat(first|(with_reducible exact Fr.refl NoF _)|(with_reducible refine Fr.alloc ?_ _)|(with_reducible refine Fr.drew ?_)|(with_reducible refine rz ?_ FI.out))))
   (uz K3.out (by repeat(first|(with_reducible exact Fr.refl NoF _)|(with_reducible refine Fr.alloc ?_ _)|(with_reducible refine Fr.drew ?_)|(with_reducible refine rz ?_ FE.out))))
   K2.out K4.out
   (by omega) (by omega) (by omega) ?_
  rintro XW p⟨hpn,hpd,hpr,hpb,hpm⟩hmp hown hfr
  (try simp only[ar,bK]at hpb)
  (try simp only[ar,bK]at hpm)
  have HPN:=Hd hpn;have HPD:=Hd hpd;have HPR:=Hd hpr;have HPB:=Hd hpb;have HPM:=Hd hpm;clear hpn hpd hpr hpb hpm;have HM:=Hd hmp;have HW:=Hd hown;have HF:=Hd hfr;have hs0:=hfr.size;clear hmp hown hfr a1 a2 a3 a4 a5 a6 FE FI K1 K2 K3 K4 ZE1 ZE2 ZI1 ZI2;refine(HP.out XW HF.out).mono ?_;rintro e w4⟨v,rfl,ho,f4⟩;have HO:=Hd ho;have F4:=Hd f4;obtain⟨sa,sc,rfl,s1,s2⟩:=SlK.shape ho.sl;have HSC:=Hd s2;have hmp4:=HM.out.fr0 f4;have ho2:=ho;clear ho f4 s2;have hbase:=ho2.base;have hmbx:p.mb<XW.heap.size:=HM.out.lt _ (.inr (.inr (.inl rfl)));have HMP4:=Hd hmp4;have HBX:=Hd (show∀b,(Value.slice sa ids.length sc).ownBlock=some b->¬b=p.mb from λb q e=>by have:=hbase b q;omega);clear hmp4 ho2 hbase hmbx
  go_wp2_with fail
  go_loopw [39] (λi wr=>∃k:Nat,k<=ids.length/\i=.int .i64 k/\MP wr p (λ_=>zF) (plK ids k) (belowB n) aU 0 k/\Fr (λi=>i=p.mb) w4 wr) (λi _=>ids.length-(intOf i).toNat)
  case atStart=>exact⟨0,Nat.zero_le _,rfl,by rw[FN];exact HMP4.out,Fr.refl _ _⟩
  case round=>
   obtain⟨k,hk,rfl,hm5,f5⟩:=hrel;have HM5:=Hd hm5;have F5:=Hd f5;have c3:wr.cell? ⟨p.pb,3,none⟩=some (.map (some p.mb)):=hm5.ce 3 (by omega);have l5:=hm5.hd.lt;rw[HPB.out,HPM.out]at c3;rw[HPB.out]at l5;by_cases hlt:k<ids.length
   .obtain⟨b,off,c,ev5,q1,q2,q3,q4⟩:=(SlK.fr HO.out.sl f5 (λb q e=>HBX.out b q e)).at hlt
    simp only[Value.slice.injEq]at ev5;obtain⟨rfl,_,rfl⟩:=ev5;obtain⟨w6,r6,h6,g6⟩:=hm5.put (by omega) (HID.out _ (List.getElem_mem hlt)) (-1);rw[AJ ids hlt]at h6;rw[HPM.out]at r6;have H6:=Hd h6;have G6:=Hd g6;generalize ids[k]=idk at*;clear hm5 f5 h6 g6;go_wp2
    go_roundw
    case rel=>exact⟨k+1,by omega,by go_num,H6.out,F5.out.trans G6.out (λi q=>.inl q)⟩
    case measure=>simp[intOf];omega
   .obtain rfl:k=ids.length:=by omega
    clear hm5 f5;go_wp2;go_returns;refine⟨p,HPN.out,HPD.out,HPR.out,by unfold PP.ptr;rw[HPB.out];rfl,by rw[<-Cn];exact HM5.out.more (by omega),HW.out,?_⟩;refine(HF.out.trans F4.out (λ_ q=>q.elim)).trans F5.out (λi q=>.inr (by rw[q];exact HW.out _ (.inr (.inr (.inl rfl)))))
end
theorem yS(n:Nat):emB n (λ_=>zF)=belowB n:=by funext i;unfold emB belowB;simp[zF]
theorem yw(n:Nat):idB n (λ_=>zF)=aU:=by funext i;unfold idB aU;simp[zF]
theorem BA(n:Nat)(r:RS)(h0:r.has 0=false):plO n (λ_=>zF) r=λid=>if id∈r.L.map (·.1)then some (-1)else none:=by
 funext id
 unfold plO;by_cases h:r.has id=true
 .rw[if_pos h,if_pos (show id∈r.L.map (·.1)from(r.has_iff id).1 h),cA (λi hi q=>by rw[<-q]at h;rw[show(zF.id)=0 from rfl,h0]at h;cases h)]
  rfl
 .rw[if_neg h,if_neg (show¬id∈r.L.map (·.1)from λq=>h ((r.has_iff id).2 q))]
theorem Dw{τ:Type}{RR:World->τ->(Nat->Prop)->Prop}{ok:Nat->τ->(Nat->Nat)->(Nat->Bool)->Prop}{a:τ}{n db m0:Nat}{r:RS}{rv iv0:Value}{it:TypeId}{w:World}{FD FA:Nat->Prop}(hcd:CD db r m0 w FD)(hm0:m0<=1000)(hrr:RR w a FA)(hfr:∀{w w':World},RR w a FA->Fr NoF w w'->RR w' a FA)(hlt:∀i,FA i->i<w.heap.size)
  (hs:∀i,FD i->¬FA i)(ht:dE w)(ht1:¬FD 0/\¬FA 0)(hrv:rv=.iface it iv0)(hn:1<=n/\n<=65535)(hL:r.L.length<=1000)(hI:Inv n (λ_=>zF) r)(hok:ok 1000 a (λ_=>0) (λ_=>true)):
  Calls prog 19 #[.pointer (some ⟨db,0,none⟩),.int .i64 n,rv] w λe w'=>∃p:PP,p.n=n/\p.db=db/\p.rv=rv/\e=.returned (.tuple #[p.ptr,.int .i64 0])/\(∃F,PW RR ok p ⟨λ_=>zF,r,a,0⟩ 1000 w' F/\(∀i,F i->FD i\/FA i\/w.heap.size<=i))/\Fr NoF w w':=by
 have hroom:=hcd.room
 have hh0:r.has 0=false:=by
  cases e:r.has 0 with
  |false=>rfl
  |true=>have:=hI.pos e;omega
 refine(xQ n db hrv w hn ht (ids:=r.L.map (·.1)) (by rw[List.length_map];exact hL) (λx hx=>by
  obtain⟨y,hy,rfl⟩:=List.mem_map.1 hx;have:=hcd.ids y hy;omega) (λW hW=>qx (hcd.fr0 hW))).mono ?_
 rintro e w'⟨p,h1,h2,h3,he,hmp,hown,hf⟩;refine⟨p,h1,h2,h3,he,⟨λi=>p.own i\/FD i\/FA i,⟨⟨FD,FA,⟨?_,by rw[h2];exact(hcd.fr0 hf).more hm0,hfr hrr hf,λi q=>⟨λk=>?_,λk=>?_⟩,hs,ht1⟩,λi=>Iff.rfl⟩,by rw[h1];exact hI,hok⟩,λi q=>?_⟩,hf⟩
 .show MP w' p (λ_=>zF) (plO p.n (λ_=>zF) r) (emB p.n (λ_=>zF)) (idB p.n (λ_=>zF)) 0 1000
  rw[yS,yw,BA p.n r hh0,h1];exact hmp
 .have:=hown i q;have:=hcd.lt i k;omega
 .have:=hown i q;have:=hlt i k;omega
 .rcases q with q|q|q
  .exact .inr (.inr (hown i q))
  .exact .inl q
  .exact .inr (.inl q)
def co(n:Nat)(q:Bool)(rv:Value)(w:World)(F:Nat->Prop):Prop:=
 (∃it iv,rv=.iface it iv)/\∃(τ:Type) (P:Adv τ) (RR:World->τ->(Nat->Prop)->Prop) (ok:Nat->τ->(Nat->Nat)->(Nat->Bool)->Prop) (s:τ),(∀pb,aJ P RR pb rv n ok)/\RR w s F/\ok 1000 s (λ_=>0) (λ_=>true)/\(q=true->kO P n ok)
def am0(room:Nat):AM:=⟨[],λ_=>0,λ_=>0,room⟩
theorem FV{τ:Type}{n room:Nat}{a:τ}(hI:Inv n (λ_=>zF) ⟨room,[],[],[],0,0,false,0⟩):Abs n ⟨λ_=>zF,⟨room,[],[],[],0,0,false,0⟩,a,0⟩ (am0 room):=
 ⟨hI,rfl,rfl,λid h1=>by
  show 0=cP n (λ_=>zF) id
  rw[Dx (λi _ q=>by have:(0:Nat)=id:=q;omega)],λid _ hm=>(by cases hm),λi _ h0=>(h0 rfl).elim,⟨rfl,rfl,rfl⟩⟩
theorem D7(n:Nat){room:Nat}(h:room<=65535):Inv n (λ_=>zF) ⟨room,[],[],[],0,0,false,0⟩:=by
 refine⟨λi hi h=>rfl,λi hi h=>absurd rfl h,λi j hi hj h=>absurd rfl h,⟨dk0 room,?_⟩,λx hx=>(by cases hx),λi hi=>by decide⟩;exact⟨rfl,rfl,rfl,rfl,rfl,λq=>(by cases q),λid _ _=>rfl,λid _ _=>rfl,Nat.zero_le _⟩
theorem DA{q:Bool}{room n db m0:Nat}{rv:Value}{w:World}{FD FA:Nat->Prop}(hcd:CD db ⟨room,[],[],[],0,0,false,0⟩ m0 w FD)(hm0:m0<=1000)(hr:co n q rv w FA)(hs:∀i,FD i->¬FA i)(ht:dE w)(ht1:¬FD 0/\¬FA 0)(hn:1<=n/\n<=65535)(hroom:room<=65535):
  Calls prog 19 #[.pointer (some ⟨db,0,none⟩),.int .i64 n,rv] w λe w'=>∃p:PP,p.n=n/\p.db=db/\p.rv=rv/\e=.returned (.tuple #[p.ptr,.int .i64 0])/\(∃F,au p q (am0 room) 1000 w' F/\(∀i,F i->FD i\/FA i\/w.heap.size<=i))/\Fr NoF w w':=by
 obtain⟨⟨it,iv,hiv⟩,τ,P,RR,ok,s,h1,h2,h3,h4⟩:=hr;refine(Dw hcd hm0 h2 (λh f=>(h1 0).fr h f (λ_ _ q=>q)) ((h1 0).lt h2) hs ht ht1 hiv hn (Nat.zero_le _) (D7 n hroom) h3).mono ?_;rintro e w'⟨p,e1,e2,e3,he,⟨F,k1,k2⟩,f⟩;refine⟨p,e1,e2,e3,he,⟨F,⟨τ,P,RR,ok,_,by rw[e1,e3];exact h1 _,k1,by rw[e1];exact FV (D7 n hroom),λx _=>rfl,λhq=>⟨rfl,by rw[e1];exact h4 hq⟩⟩,k2⟩,f⟩
end
end Go.Proofs.YtoenclhimbpfeaaGreatDoor
