/-
  PoolPolicies: whichever two of the policies, or what advice, there are, all is answered alike; behind FlushAll both disks hold the same; with a policy there is no scan: the row, and its card. No condition of its own; the library's table of trailing zeros (math/bits.deBruijn64tab) is as its initialiser lays it: the card ties it to the program's text.
-/
import Derived.Test.YtipopinjppjnfaaGreatDoorK48
import Derived.Test.YtipopinjppjnfaaGreatDoorCards
namespace Go.Proofs.YtipopinjppjnfaaGreatDoor
set_option linter.all false
set_option maxHeartbeats 16000000
set_option maxRecDepth 100000
section
open Go.Maps Go.Proofs.Tryz Go.RowKit
theorem Fr.below{w w':World}(h:Fr NoF w w'):Below w.heap.size w w':=⟨h.os,h.tape,h.output,h.size,fun k hk=>h.block k hk id⟩
theorem SlZ.cut{w:World}{a:Option Addr}{c:Nat}{l:List Int}(h:SlZ w (.slice a l.length c) l)(k:Nat)(hk:k<=l.length):SlZ w (.slice a k c) (l.take k):=by
 have e:(l.take k).length=k:=by rw[List.length_take];omega
 by_cases hc:0<c
 .obtain⟨b,off,rfl,h1⟩:=SlC.cut (lo:=0) (hi:=k) h (by omega) hk rfl hc
  simp only[Nat.zero_mul,Nat.add_zero,Nat.sub_zero,List.drop_zero,Nat.mul_one]at h1;unfold SlZ;rw[e,List.map_take];exact h1
 .obtain⟨_,_,e1,q1,_⟩:=h.shape
  simp only[Value.slice.injEq]at e1;obtain⟨rfl,_,rfl⟩:=e1;obtain rfl:k=l.length:=by omega
  rw[List.take_length];exact h
section
variable{p1 p2:PP}{qa qb:Bool}{M M2:AM}{m m2:Nat}{w0 w w':World}
theorem Duo.ask(h:Duo (AnyP p1 qa M m) (AnyP p2 qb M m) w0 w){id:Nat}(hu:id<4294967296):Calls prog 9 #[p1.ptr,.int .u32 id] w (fun e w'=>e=.returned (.int .i64 (M.pin id:Nat))∧w=w')∧Calls prog 9 #[p2.ptr,.int .u32 id] w (fun e w'=>e=.returned (.int .i64 (M.pin id:Nat))∧w=w')∧Calls prog 10 #[p1.ptr,.int .u32 id] w (fun e w'=>e=.returned (.bool (decide (id∈M.ids)))∧w=w')∧Calls prog 10 #[p2.ptr,.int .u32 id] w (fun e w'=>e=.returned (.bool (decide (id∈M.ids)))∧w=w'):=by
 obtain⟨F,h1⟩:=h.one;obtain⟨G,h2⟩:=h.two;exact⟨h1.pi hu,h2.pi hu,h1.hs hu,h2.hs hu⟩
theorem Duo.scans(h:Duo (AnyP p1 qa M m) (AnyP p2 qb M2 m2) w0 w)(hq:qa=true):Calls prog 8 #[p1.ptr] w fun e w'=>e=.returned (.int .i64 0)∧w=w':=by
 subst hq;obtain⟨F,h1⟩:=h.one;exact h1.sc
end
def DVS(db:Nat)(ids:List Nat)(val:Nat->Nat)(v:Value)(m:Nat)(w:World)(F:Nat->Prop):Prop:=∃G,DV db ids val m w G∧SlK .u32 w v ids∧(∀b,v.ownBlock=some b->¬G b)∧∀i,F i↔G i∨v.ownBlock=some i
theorem dvsFrm{db m:Nat}{ids:List Nat}{val:Nat->Nat}{v:Value}:Frm (DVS db ids val v m) where
 lt:=fun⟨G,h1,h2,h3,h4⟩ i q=>((h4 i).1 q).elim (dvFrm.lt h1 i) (h2.lt i)
 fro:=fun⟨G,h1,h2,h3,h4⟩ f hG ht=>⟨G,dvFrm.fro h1 f (fun i q=>hG i ((h4 i).2 (.inl q))) ht,h2.fr f (fun b q=>hG b ((h4 b).2 (.inr q))),h3,h4⟩
section
variable{db m id:Nat}{ids:List Nat}{val:Nat->Nat}{v:Value}{w w0 w':World}{F:Nat->Prop}{R2:World->(Nat->Prop)->Prop}
theorem DV.small(h:DV db ids val m w F)(hi:id∈ids):id<4294967296:=by
 obtain⟨D,h1,h2,h3,h4⟩:=h;rw[<-h3]at hi;obtain⟨y,hy,e⟩:=List.mem_map.1 hi;have:=h1.ids y hy;have:=h1.room;omega
theorem DV.len(h:DV db ids val m w F):ids.length<=65535:=by
 obtain⟨D,h1,h2,h3,h4⟩:=h;have hr:=h1.room;obtain⟨s,c,pv,fv,mb,fh,nf,g1,hs,g3,g4⟩:=h1;have k1:=plR_len s.pg 0 s.np;have k2:=hs.np;have e:ids.length=D.L.length:=by rw[<-h3];show(D.L.map _).length=_;rw[List.length_map]
 have k3:D.L.length<=D.room:=by
  rw[hs.room,hs.L];unfold plL;omega
 omega
theorem DVS.read(h:DVS db ids val v m w F)(hm:m<100000)(hi:id∈ids):Calls prog 13 #[.pointer (some ⟨db,0,none⟩),.int .u32 id] w fun e w'=>e=.returned (.tuple #[.int .u64 (val id),.int .i64 0])∧Led (DVS db ids val v (m+1)) F w w':=by
 obtain⟨G,h1,h2,h3,h4⟩:=h;refine(h1.read hm hi (h1.small hi)).mono ?_;rintro e w'⟨he,G',k1,k2,k3⟩;refine⟨he,fun i=>G' i∨v.ownBlock=some i,⟨G',k1,h2.fr k2 (fun b q g=>h3 b q g),fun b q g=>?_,fun i=>Iff.rfl⟩,k2.mono (fun i g=>(h4 i).2 (.inl g)),fun i q=>?_⟩
 .rcases k3 b g with c|c
  .exact h3 b q c
  .have:=h2.lt b q;omega
 .rcases q with q|q
  .exact(k3 i q).imp (fun c=>(h4 i).2 (.inl c)) (fun c=>c)
  .exact .inl ((h4 i).2 (.inr q))
theorem Duo.pages(k2:Frm R2)(h:Duo (DV db ids val m) R2 w0 w):Calls prog 12 #[.pointer (some ⟨db,0,none⟩)] w fun e w'=>∃v,e=.returned v∧Duo (DVS db ids val v m) R2 w0 w':=by
 obtain⟨h0,F,G,h1,h2,h3,h4,h5⟩:=h;refine h1.pages.mono ?_;rintro e w'⟨v,he,o,f⟩;have ol:=dvFrm.lt h1;refine⟨v,he,h0,fun i=>F i∨v.ownBlock=some i,G,⟨F,dvFrm.fro h1 f (fun _ _ q=>q) (fun q=>q),o.sl,fun b q g=>?_,fun i=>Iff.rfl⟩,k2.fro h2 f (fun _ _ q=>q) (fun q=>q),fun i q g=>?_,fun i q=>?_,h5.trans f (fun _ q=>q.elim)⟩
 .have:=o.base b q;have:=ol b g;omega
 .rcases q with q|q
  .exact h3 i q g
  .have:=o.base i q;have:=k2.lt h2 i g;omega
 .rcases q with(q|q)|q
  .exact h4 i (.inl q)
  .have:=o.base i q;have:=h5.size;omega
  .exact h4 i (.inr q)
theorem Duo.list(h:Duo (DVS db ids val v m) R2 w0 w):SlK .u32 w v ids:=by
 obtain⟨h0,F,G,⟨_,_,h,_⟩,_⟩:=h;exact h
theorem Duo.fin{R1:World->(Nat->Prop)->Prop}(h:Duo R1 R2 w0 w):Fr NoF w0 w:=by
 obtain⟨h0,F,G,h1,h2,h3,h4,h5⟩:=h;exact h5
theorem AnyP.fv{p:PP}{q:Bool}{M:AM}(h:AnyP p q M m w F)(hm:m<60000)(hn:p.n<=64):Calls prog 11 #[p.ptr] w fun e w'=>e=.returned (.int .i64 0)∧Led (DV p.db M.ids M.val (m+100)) F w w':=
 (h.fa hm hn).mono fun e w' ⟨he,F',k1,k2,k3⟩=>by
  obtain⟨F2,c1,c2⟩:=k1.dv;exact⟨he,F2,c1,k2,fun i q=>k3 i (c2 i q)⟩
end
theorem policies_walk(a0 a1 a2:Int)(v av:Value)(zs:List OpZ)(l:List Int)(w:World)(hv:ArgZ w v zs)(ha:SlZ w av l)(hT:TabT w):Calls prog 3 #[.agg #[.int .i64 a0,.int .i64 a1,.int .i64 a2],v,av] w fun e w'=>e=.returned (.bool true)∧Fr NoF w w':=by
 obtain⟨sa,sc,ev,q1,q2,hcells,hrng⟩:=hv;subst ev;obtain⟨aa,ac,rfl,p1,p2⟩:=SlC.shape ha;unfold maxLen at q2 p2;have HCE:=Hd hcells;have HRG:=Hd hrng;have HAD:=Hd ha;have HT:=Hd hT;clear hcells hrng ha hT;obtain⟨n,hn1,hn2,en⟩:=modu1 a0 (k:=6) (by decide) (by decide);obtain⟨ka,hka,ea⟩:=modu a1 (k:=6) (by decide) (by decide);obtain⟨kb,hkb,eb⟩:=modu a2 (k:=6) (by decide) (by decide);have EN:=Hd en;have EA:=Hd ea;have EB:=Hd eb;clear en ea eb;go_enter func3,ntmps3
 go_wp2_with fail
 rw[EN.out]
 go_quiet (fail)
 rw[EA.out,EB.out]
 go_wp2_with fail
 have HK:Hid ((min (l.length:Int) 200).toNat<=l.length∧(min (l.length:Int) 200).toNat<=200):=⟨by omega,by omega⟩;generalize(min (l.length:Int) 200).toNat=k at*;have HA2:=Hd (HAD.out.cut k HK.out.1);have hlk:(l.take k).length=k:=by rw[List.length_take];have:=HK.out.1;omega
 have hl2:(l.take k).length<=65535:=by have:=HK.out.2;omega
 generalize l.take k=L at*;subst hlk;clear HAD HK EN p1 EA EB;have f0:Hid (Fr NoF w ((w.alloc (.cells #[.int .i64 a0,.int .i64 a1,.int .i64 a2] 22)).drewN nq)):=((Fr.refl NoF w).alloc _).drewN nq;refine(pair_calls ka kb (by omega) (by omega) _ ⟨by omega,by omega⟩ (HA2.out.keep f0.out) hl2 (HT.out.fr0 f0.out)).mono ?_;rintro e w1⟨p1,p2,k1,k2,rfl,h1⟩;have K1:=Hd k1;have K2:=Hd k2
 have H1:Hid (Duo (AnyP p1 (decide (ka<5)) (am0 12) 1000) (AnyP p2 (decide (kb<5)) (am0 12) 1000) w w1):=by
  obtain⟨c0,F,G,c1,c2,c3,c4,c5⟩:=h1;exact⟨HT.out.lt,F,G,c1.any,c2.any,c3,fun i q=>Nat.le_trans f0.out.size (c4 i q),f0.out.trans c5 (fun _ q=>q.elim)⟩
 clear k1 k2 h1 HA2;unfold PP.ptr
 go_wp2_with fail
 refine(toldP_calls (HT.out.fr0 H1.out.out)).mono ?_;rintro e w2⟨rfl,f2⟩;have H2:=Hd (H1.out.fr0 f2);clear f2 H1
 go_wp2_with fail
 go_loopw [14] (fun i wr=>∃j:Nat,j<=zs.length∧i=.int .i64 j∧j<=150∧∃M:AM,Duo (AnyP p1 (decide (ka<5)) M (1000+100*j)) (AnyP p2 (decide (kb<5)) M (1000+100*j)) w wr) (fun i _=>zs.length-(intOf i).toNat)
 case atStart=>exact⟨0,Nat.zero_le _,rfl,Nat.zero_le _,_,H2.out⟩
 case round=>
  obtain⟨j,hj,rfl,hj2,M,hE⟩:=hrel;have HF0:=Hd hE.out;by_cases hgo:j<zs.length∧j<150
  .obtain⟨hlt,h150⟩:=hgo
   obtain⟨xb,xo,rfl,hxb,hcell⟩:=HCE.out (by omega);obtain⟨cz0,cz1,cz2⟩:=hcell j zs[j] (List.getElem?_eq_getElem hlt);have HU:=Hd (HRG.out zs[j] (List.getElem_mem hlt));rw[<-HF0.out.cell (p:=⟨xb,xo+j*3,none⟩) hxb id]at cz0;rw[<-HF0.out.cell (p:=⟨xb,xo+j*3+1,none⟩) hxb id]at cz1;rw[<-HF0.out.cell (p:=⟨xb,xo+j*3+2,none⟩) hxb id]at cz2;generalize zs[j]=z at cz0 cz1 cz2 HU;obtain⟨zk,zi,zx⟩:=z;simp only at cz0 cz1 cz2 HU;clear hcell;have hsz:=HF0.out.size
   have HB:Hid (∀W,Fr NoF wr W->Calls prog 7 #[p1.ptr,p2.ptr,.agg #[.int .i64 zk,.int .u32 zi,.int .u64 zx]] W fun e w'=>e=.returned (.bool true)∧∃M',Duo (AnyP p1 (decide (ka<5)) M' (1000+100*j+100)) (AnyP p2 (decide (kb<5)) M' (1000+100*j+100)) w w'):=fun W g=>
    same_calls K1.out K2.out (by omega) (hE.fr0 g) (by omega) zk HU.out.1 HU.out.2
   clear hE HF0 H2;unfold PP.ptr at HB
   go_wp2_with fail
   refine(HB.out _ (by repeat(first|exact Fr.refl NoF _|apply Fr.drew|apply Fr.drewN))).mono ?_;rintro e w5⟨rfl,M',h5⟩;have H5:=Hd h5;clear h5 HB HU
   have hA:(decide ((ka:Int)<5)=true∧ka<5)∨(decide ((ka:Int)<5)=false∧¬ka<5):=by
    by_cases c:ka<5
    .exact .inl ⟨by simp;omega,c⟩
    .exact .inr ⟨by simp;omega,c⟩
   have hB:(decide ((kb:Int)<5)=true∧kb<5)∨(decide ((kb:Int)<5)=false∧¬kb<5):=by
    by_cases c:kb<5
    .exact .inl ⟨by simp;omega,c⟩
    .exact .inr ⟨by simp;omega,c⟩
   rcases hA with⟨dA,hA⟩|⟨dA,hA⟩<;>rcases hB with⟨dB,hB⟩|⟨dB,hB⟩
   all_goals go_wp2_with fail
   all_goals try(refine(H5.out.scans (decide_eq_true hA)).mono ?_;rintro e w6⟨rfl,rfl⟩;go_wp2_with fail)
   all_goals try(refine(H5.out.swap.scans (decide_eq_true hB)).mono ?_;rintro e w6⟨rfl,rfl⟩;go_wp2_with fail)
   all_goals
    go_hide hQ2
    go_loopw [15] (fun i wq=>∃k:Nat,k<=14∧i=.int .u32 k∧Duo (AnyP p1 (decide (ka<5)) M' (1000+100*j+100)) (AnyP p2 (decide (kb<5)) M' (1000+100*j+100)) w wq) (fun i _=>14-(intOf i).toNat)
    case atStart=>exact⟨0,by omega,rfl,H5.out⟩
    case round=>
     obtain⟨k,hk,rfl,h8⟩:=hrel;have H8:=Hd h8;by_cases hlk:k<14
     .have HQ:=Hd (h8.ask (id:=k) (by omega))
      unfold PP.ptr at HQ;clear h8
      go_wp2_with fail
      refine HQ.out.1.mono ?_;rintro e w6⟨rfl,rfl⟩
      go_wp2_with fail
      refine HQ.out.2.1.mono ?_;rintro e w6⟨rfl,rfl⟩
      go_wp2_with fail
      refine HQ.out.2.2.1.mono ?_;rintro e w6⟨rfl,rfl⟩
      go_wp2_with fail
      refine HQ.out.2.2.2.mono ?_;rintro e w6⟨rfl,rfl⟩;clear HQ;go_wp2
      go_roundw
      case rel=>exact⟨k+1,by omega,by go_num,H8.out⟩
      case measure=>simp[intOf];omega
     .obtain rfl:k=14:=by omega
      clear hlk hk h8;go_wp2;subst hQ2;go_wp2
      go_roundw
      case rel=>exact⟨j+1,by omega,by go_num,by omega,M',by rw[show 1000+100*(j+1)=1000+100*j+100 from by omega];exact H8.out⟩
      case measure=>simp[intOf];omega
  .have hgo2:((j:Int)<(zs.length:Int)∧decide ((j:Int)<150)=false)∨decide ((j:Int)<(zs.length:Int))=false:=by
    by_cases c:j<zs.length
    .exact .inl ⟨by omega,by simp;omega⟩
    .exact .inr (by simp;omega)
   have HE:=Hd hE;have hj3:Hid (1000+100*j<17000):=by show 1000+100*j<17000;omega
   have h64:Hid (p1.n<=64∧p2.n<=64):=⟨by rw[K1.out];omega,by rw[K2.out];omega⟩;generalize 1000+100*j=mm at*;clear hE HF0 H2;rcases hgo2 with⟨d1,d2⟩|d1
   all_goals go_wp2_with fail
   all_goals
    refine(HE.out.left (Q:=fun e=>e=.returned (.int .i64 0)) anyFrm (fun F h=>h.fv (Nat.lt_trans hj3.out (by omega)) h64.out.1)).mono ?_;rintro e w5⟨rfl,h5⟩;have H5:=Hd h5;clear h5 HE
    go_wp2_with fail
    refine(H5.out.right (Q:=fun e=>e=.returned (.int .i64 0)) dvFrm (fun F h=>h.fv (Nat.lt_trans hj3.out (by omega)) h64.out.2)).mono ?_;rintro e w6⟨rfl,h6⟩;have H6:=Hd h6;clear h6 H5
    go_wp2_with fail
    refine(H6.out.pages dvFrm).mono ?_;rintro e w7⟨v1,rfl,h7⟩;have H7:=Hd h7;clear h7 H6
    go_wp2_with fail
    refine(H7.out.swap.pages dvsFrm).mono ?_;rintro e w8⟨v2,rfl,h8⟩;have H8:=Hd h8.swap;clear h8 H7;obtain⟨l1,c1,e1,_,_⟩:=H8.out.list.shape;obtain⟨l2,c2,e2,_,_⟩:=H8.out.swap.list.shape;subst e1;subst e2
    go_wp2_with fail
    have hl9:Hid (M.ids.length<=65535):=by
     obtain⟨_,F,G,⟨G',z,_⟩,_⟩:=H8.out;exact z.len
    go_loopw [18] (fun i wq=>∃k:Nat,k<=M.ids.length∧i=.int .i64 k∧Duo (DVS p1.db M.ids M.val (.slice l1 M.ids.length c1) (mm+100+k)) (DVS p2.db M.ids M.val (.slice l2 M.ids.length c2) (mm+100+k)) w wq) (fun i _=>M.ids.length-(intOf i).toNat)
    case atStart=>exact⟨0,Nat.zero_le _,rfl,H8.out⟩
    case round=>
     obtain⟨k,hk,rfl,h9⟩:=hrel;have H9:=Hd h9;clear H8;by_cases hlk:k<M.ids.length
     .obtain⟨b1,o1,d1,e1,y1,y2,y3,y4⟩:=h9.list.at hlk
      obtain⟨b2,o2,d2,e2,z1,z2,z3,z4⟩:=h9.swap.list.at hlk;simp only[Value.slice.injEq]at e1 e2;obtain⟨rfl,_,rfl⟩:=e1;obtain⟨rfl,_,rfl⟩:=e2;have HM:=Hd (List.getElem_mem hlk);have hmm:=Hd (show mm+100+k<100000 by have:=hj3.out;have:=hl9.out;omega);have HLK:=Hd hlk;clear h9
      go_wp2_with fail
      refine(H9.out.left (Q:=fun e=>e=.returned (.tuple #[.int .u64 (M.val M.ids[k]),.int .i64 0])) dvsFrm (fun F h=>h.read hmm.out HM.out)).mono ?_;rintro e w9⟨rfl,h10⟩;have H10:=Hd h10;obtain⟨b3,o3,d3,e1,_,_,y5,y6⟩:=h10.list.at hlk;simp only[Value.slice.injEq,Option.some.injEq,Addr.mk.injEq]at e1;obtain⟨⟨rfl,rfl,_⟩,_,rfl⟩:=e1;clear h10 y3 y4 z3 z4
      go_wp2_with fail
      refine(H10.out.right (Q:=fun e=>e=.returned (.tuple #[.int .u64 (M.val M.ids[k]),.int .i64 0])) dvsFrm (fun F h=>h.read hmm.out HM.out)).mono ?_;rintro e w10⟨rfl,h11⟩;have H11:=Hd h11;obtain⟨b3,o3,d3,e1,_,_,y7,y8⟩:=h11.list.at hlk;obtain⟨b4,o4,d4,e2,_,_,y9,y10⟩:=h11.swap.list.at hlk;simp only[Value.slice.injEq,Option.some.injEq,Addr.mk.injEq]at e1 e2;obtain⟨⟨rfl,rfl,_⟩,_,rfl⟩:=e1;obtain⟨⟨rfl,rfl,_⟩,_,rfl⟩:=e2;clear h11 y5 y6
      go_wp2_with fail
      go_quiet (fail)
      have hz1:=hl9.out;have hz2:=HLK.out;go_wp2
      go_roundw
      case rel=>exact⟨k+1,HLK.out,by go_num,Duo.frm dvsFrm dvsFrm H11.out (by repeat(first|exact Fr.refl NoF _|apply Fr.drewN|apply Fr.drew))⟩
      case measure=>have:=HLK.out;simp[intOf];omega
     .obtain rfl:k=M.ids.length:=by omega
      go_wp2
      go_ret
      exact⟨rfl,H9.out.fin⟩
end
section
open Go.ChangeAt Go.ChangeShapes Go.Proofs.Tryz Go.RowKit Go.WideShapes
namespace poolPolicies
theorem j2:(mapsRowed prog)=true:=by kernel_rfl
end poolPolicies
namespace poolPolicies
theorem cellsI:prog.cellsOf 3=1:=by kernel_rfl
theorem cellsA:prog.cellsOf 22=3:=by kernel_rfl
theorem list3{α:Type}(l:List α)(h:(⟨l⟩:Array α).size=3):∃a b c,l=[a,b,c]:=by
 match l,h with
 |[a,b,c],_=>exact⟨a,b,c,rfl⟩
theorem open3{H:Type}{enc:TypeId×Value->H}{W:World}{base:Nat}{sp:Nat->Bool}{held:Bool}{v:Value}{d:DataW H}{p:List MemPlace}(hval:Value.okWide prog W .any base 22 v)(h:DataW.Trod enc prog W 0 sp held 22 v d p):
  ∃x0 x1 x2:Int,v=.agg #[.int .i64 x0,.int .i64 x1,.int .i64 x2]∧d=.agg [.lit (.int .i64 x0),.lit (.int .i64 x1),.lit (.int .i64 x2)]∧p=[]∧(Lit.int .i64 x0).wf=true∧(Lit.int .i64 x1).wf=true∧(Lit.int .i64 x2).wf=true:=by
 obtain⟨cs,rfl,hsz,_⟩:∃cs,v=.agg cs∧cs.size=prog.cellsOf 22∧Row.okWide prog W .any base 22 cs:=by
  simpa[Value.okWide,underlying22]using hval
 rw[cellsA]at hsz;obtain⟨l⟩:=cs;obtain⟨c0,c1,c2,rfl⟩:=list3 l hsz;obtain⟨fuel,hf⟩:=h;obtain⟨y0,y1,y2,m,hx,hy0,hy1,hy2⟩:=trod_array3 underlying22 cellsI hf;obtain⟨x0,e0,rfl,w0⟩:=DataW.trod_int underlying3 hy0;obtain⟨x1,e1,rfl,w1⟩:=DataW.trod_int underlying3 hy1;obtain⟨x2,e2,rfl,w2⟩:=DataW.trod_int underlying3 hy2;simp at e0 e1 e2;subst e0 e1 e2;simp only[Prod.mk.injEq]at hx;obtain⟨rfl,rfl⟩:=hx;exact⟨x0,x1,x2,rfl,rfl,rfl,w0,w1,w2⟩
theorem shut3{H:Type}{enc:TypeId×Value->H}(W:World)(base:Nat)(sp:Nat->Bool)(held:Bool){x0 x1 x2:Int}(w0:(Lit.int .i64 x0).wf=true)(w1:(Lit.int .i64 x1).wf=true)(w2:(Lit.int .i64 x2).wf=true):
  DataW.Trod enc prog W base sp held 22 (.agg #[.int .i64 x0,.int .i64 x1,.int .i64 x2]) (.agg [.lit (.int .i64 x0),.lit (.int .i64 x1),.lit (.int .i64 x2)]) []:=
 ⟨2,by simp[DataW.trod,Value.cells,underlying22,underlying3,cellsI,cellsA,w0,w1,w2,List.range,List.range.loop]⟩
theorem lifted(os:Os)(started:os.Started)(H:Type)(enc:TypeId×Value->H):
  ReturnsInHanded {} Tryz.checked os 3 .any (fun w args=>(Rows.poolPoliciesSpec.pre enc prog Tryz.f3 Rows.poolPoliciesRow.domain false w args∧laidMet prog Rows.poolPoliciesRow.laid w)∧sizedMet enc prog Tryz.f3 (OpenSpec.ofChange Rows.poolPoliciesSpec) false w args)
   (Rows.poolPoliciesSpec.post enc prog Tryz.f3 false true false false):=by
 refine returnsInHanded_of_change_and (C:=Tryz.checked) (X:=fun w _=>laidMet prog Rows.poolPoliciesRow.laid w) (fun _ _ _ hh h=>h.of_heap hh) ownM started (by kernel_rfl) func3
  (ChangeSpec.witness_at (enc:=enc) (C:=Tryz.checked) (os:=os) (X:=fun w _=>laidMet prog Rows.poolPoliciesRow.laid w) false (tabWorld os) #[.agg #[.int .i64 0,.int .i64 0,.int .i64 0],.slice none 0 0,.slice none 0 0] 8 rfl (by kernel_rfl) (by kernel_rfl) (by kernel_rfl) (by kernel_rfl) (by kernel_rfl) (tab_met os _)) ?_
 intro W base args ds gs before hval0 hW _ _ hL _;have hval:∀(j:Nat) t v,Tryz.f3.params[j]?=some t->args[j]?=some v->Value.okWide prog W .any base t v:=hval0;have hW':=hW;obtain⟨p,q,hA0,hV,rfl,hfz,hnd⟩:=hW;have hA:DataW.TrodAll enc prog W 0 (fun _=>true) true Tryz.f3.params.toList args.toList ds p:=hA0;rw[Tryz.params3]at hA hval;obtain⟨v0,vs0,d0,ds0,p0,q0,hargs,rfl,rfl,h0,r0⟩:=trodAll_cons hA;obtain⟨v1,vs1,d1,ds1,p1,q1,rfl,rfl,rfl,h1,r1⟩:=trodAll_cons r0;obtain⟨v2,vs2,d2,ds2,p2,q2,rfl,rfl,rfl,h2,r2⟩:=trodAll_cons r1;obtain⟨rfl,rfl,rfl⟩:=trodAll_nil r2;obtain rfl:args=#[v0,v1,v2]:=by cases args;simp_all
 obtain⟨rfl,rfl⟩:=trodVars_none hV;obtain⟨x0,x1,x2,rfl,rfl,rfl,w0,w0',w0''⟩:=open3 (hval 0 22 v0 rfl rfl) h0;obtain⟨a1,len1,cap1,rfl⟩:=okWide_slice underlying23 (hval 1 23 v1 rfl rfl);obtain⟨a2,len2,cap2,rfl⟩:=okWide_slice underlying24 (hval 2 24 v2 rfl rfl);have hv2:∀a,a2=some a->a.spot=none∧a.block<W.heap.size:=fun a e=>by subst e;exact has_slice (hval 2 24 _ rfl rfl)
 have k1:=h1;have k2:=h2;have lt1:∀x∈p1,x.block<W.heap.size:=by obtain⟨m,hm⟩:=k1;exact DataW.trod_lt m _ _ _ hm
 have lt2:∀x∈p2,x.block<W.heap.size:=by obtain⟨m,hm⟩:=k2;exact DataW.trod_lt m _ _ _ hm
 obtain⟨zs,wz⟩:∃zs,ArgZ W (.slice a1 len1 cap1) zs:=by
  obtain⟨fuel,hf⟩:=h1;exact argO_of hf
 obtain⟨l,wl,_⟩:∃l:List Int,SlZ W (.slice a2 len2 cap2) l∧l.length=len2:=by
  obtain⟨fuel,hf⟩:=h2;exact argI_of hv2 hf
 clear hA0 hval0;have hT:TabT W:=tabT_of hL;simp only[List.append_nil,List.nil_append]at hW';refine(policies_walk x0 x1 x2 _ _ zs l W wz wl hT).mono fun e W' ⟨he,hf⟩=>?_
 have bel:=hf.below;subst he;exact⟨_,rfl,_,_,_,[],_,[],hW',trodAll_mk1 (shut_bool underlying4 _),(trodAll_cons_mk (shut3 W' _ _ _ w0 w0' w0'') (trodAll_cons_mk (Below.trod laidOutM (by kernel_rfl) (of_decide_eq_true (by kernel_rfl)) k1 bel lt1) (trodAll_cons_mk (Below.trod laidOutM (by kernel_rfl) (of_decide_eq_true (by kernel_rfl)) k2 bel lt2) trodAll_mk0))),rfl,bel.frame _,fun h=>by cases h⟩
theorem said:Rows.PoolPoliciesSaid:=
 OpenClaim.holds_of_wide 3 Tryz.f3 rfl rfl rfl rfl rfl rfl rfl ⟨rfl,rfl,rfl,rfl,rfl⟩ rfl rfl rfl rfl rfl (by kernel_rfl) func3 (by kernel_rfl)
  (of_decide_eq_true (by kernel_rfl)) (by unfold Func.isWrapper;first|(rw[if_pos (by decide+kernel)];kernel_rfl)|(rw[if_neg (by decide+kernel)];exact⟨rfl,rfl⟩))
  (fun os started H enc _=>lifted os started H enc)
theorem proved:Rows.PoolPoliciesCardSaid:=
 Claim7.holds_tied_plain_at .later [] [.data] true (true, "3feeb3be4f06a5aa590059b5607b29710dd3f67bc922df5a704256520de4cf0f") true
  said (fun _ h=>by cases h) (by kernel_rfl) (fun _ h=>by cases h) poolPolicies_row_tie rfl ⟨rfl,rfl⟩ (by kernel_rfl) rfl
  (fun f fn hf hfn=>by
   obtain rfl:f=3:=Option.some.inj ((show prog.funcNamed "hatcheck/hatchecklaw09.PoolPolicies" =some 3 by kernel_rfl).symm.trans hf)|>.symm
   obtain rfl:fn=Tryz.f3:=(Option.some.inj (func3.symm.trans hfn)).symm
   exact⟨by kernel_rfl,fun j t ht=>by
    rw[Tryz.params3]at ht
    have h3:t=22∨t=23∨t=24:=by
     rcases j with _|_|_|j
     .left;simpa using ht.symm
     .right;left;simpa using ht.symm
     .right;right;simpa using ht.symm
     .simp at ht
    rcases h3 with rfl|rfl|rfl
    .exact(show prog.wantsStandIn 22=false by kernel_rfl)
    .exact(show prog.wantsStandIn 23=false by kernel_rfl)
    .exact(show prog.wantsStandIn 24=false by kernel_rfl)⟩)
  (by kernel_rfl)
#print axioms proved
end poolPolicies
end
end Go.Proofs.YtipopinjppjnfaaGreatDoor
