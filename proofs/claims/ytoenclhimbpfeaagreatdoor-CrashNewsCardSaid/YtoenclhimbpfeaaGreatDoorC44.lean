/- Part 44. -/
import Derived.Test.YtoenclhimbpfeaaGreatDoorC27
import Derived.Test.YtoenclhimbpfeaaGreatDoorC34
import Derived.Test.YtoenclhimbpfeaaGreatDoorC42
import Derived.Test.YtoenclhimbpfeaaGreatDoorC43
namespace Go.Proofs.YtoenclhimbpfeaaGreatDoor
set_option linter.all false
set_option maxHeartbeats 16000000
set_option maxRecDepth 100000
section
open Go.Maps Go.RowKit
theorem good_of{τ:Type}{P:Pol τ}{pre:τ->Cl->Prop}{n:Nat}{ok:Nat->τ->(Nat->Nat)->(Nat->Bool)->Prop}(O:OkSys P pre n ok):Good0 (advOf P) n ok:=fun m s pg ev id h hx=>by
 cases e:P.victim s id with
 |none=>exact(O.some h hx e).elim
 |some a=>exact⟨a,e,O.goer h e⟩
theorem rows_0{n:Nat}{r:Nat->Prop}{page:Nat->Nat}{e:Nat->Bool}(hr:∀f,¬r f)(he:∀f,e f=false):RowsOk n r page e (fun _=>0) (fun _=>true):=
 ⟨fun f=>⟨fun q=>(hr f q).elim,fun q=>(q.2 rfl).elim⟩,fun f q=>(hr f q).elim,fun f q=>(hr f q).elim,fun f _=>he f⟩
theorem new4{n b:Nat}{w:World}{F:Nat->Prop}(h:LRu w b n [] (fun _=>false) F):NewRep n true (repV4 b) w F:=
 ⟨⟨_,_,rfl⟩,LT,advOf lruPol,lruCR b n,ok4 n,([],fun _=>false),fun pb=>rep4 pb b n,h,⟨fun _=>0,rows_0 (fun f q=>by cases q) (fun _=>rfl)⟩,fun _=>good_of (okS4 n)⟩
theorem cntR_0(n:Nat):cntR (fun _=>none) n=0:=by
 induction n with
 |zero=>rfl
 |succ n ih=>unfold cntR;rw[ih];rfl
theorem new5{n K near kept b:Nat}{w:World}{F:Nat->Prop}(h:CRL w b (newS n K near kept) F):NewRep n true (repV5 b) w F:=by
 refine⟨⟨_,_,rfl⟩,LK,advOf polL,CR5 b,ok5 n,newS n K near kept,fun pb=>rep5 pb b n,?_,?_,fun _=>good_of (okS5 n)⟩
 .exact⟨by show 0<800000;omega,fun _=>false,fun x a b q _=>(by cases q),h⟩
 .refine⟨rfl,Nat.zero_le _,Nat.zero_le _,fun f hf=>rfl,fun f hf q=>(q rfl).elim,fun f=>⟨fun q=>(by cases q),fun q=>(q.2.1 rfl).elim⟩,?_,fun f hf q=>(q rfl).elim,fun f g hf hg q=>(q rfl).elim⟩
  exact(cntR_0 n).symm
theorem new6{n inn out b:Nat}{w:World}{F:Nat->Prop}(h:CRT b n inn out w t60 F):NewRep n true (repV6 b) w F:=
 ⟨⟨_,_,rfl⟩,T6,advOf (polT inn out),CRT b n inn out,ok6 n,t60,fun pb=>rep6 pb b n inn out,h,rows_0 (fun f q=>by rcases q with q|q<;>cases q) (fun _=>rfl),fun _=>good_of (okS6 n inn out)⟩
theorem new7{n b:Nat}{w:World}{F:Nat->Prop}(h:CRA b n w t70 F):NewRep n true (repV7 b) w F:=
 ⟨⟨_,_,rfl⟩,T7,advOf (polA n),CRA b n,ok7 n,t70,fun pb=>rep7 pb b n,h,rows_0 (fun f q=>by rcases q with q|q<;>cases q) (fun _=>rfl),fun _=>good_of (okS7 n)⟩
theorem new8{n b:Nat}{w:World}{F:Nat->Prop}(h1:1<=n)(hn:n<=65535)(h:CRP b n w (pr0 n) F):NewRep n true (repV8 b) w F:=
 ⟨⟨_,_,rfl⟩,PrS,advOf (polC n),CRP b n,ok8 n,pr0 n,fun pb=>rep8 pb b n hn,h,⟨(pk0 h1).1,(pk0 h1).2,fun f hf=>rfl,fun f hf q=>(q rfl).elim⟩,fun _=>good_of (okS8 n)⟩
end
section
open Go.Proofs.Tryz Go.RowKit
theorem lru_new_no(n:Int)(w:World)(h:n<1∨65535<n):
  Calls prog 26 #[.int .i64 n] w fun e w'=>e=.returned (.tuple #[.pointer none,.int .i64 1])∧w=w':=by
 by_cases h1:n<1
 .have d1:decide (n<1)=true:=by simp[h1]
  clear h;go_enter func26,ntmps26;go_wp2
  go_ret2
  exact⟨rfl,rfl⟩
 .have d1:decide (n<1)=false:=by simp;omega
  have d2:decide (65535<n)=true:=by simp;omega
  clear h h1;go_enter func26,ntmps26;go_wp2
  go_ret2
  exact⟨rfl,rfl⟩
theorem lru_new_yes(n:Nat)(w:World)(h1:1<=n)(hn:n<=65535):
  Calls prog 26 #[.int .i64 n] w fun e w'=>∃b F,e=.returned (.tuple #[.pointer (some ⟨b,0,none⟩),.int .i64 0])∧LRu w' b n [] (fun _=>false) F∧(∀i,F i->w.heap.size<=i)∧Fr NoF w w':=by
 have mk1:=mkB n (by omega);have MK:=Hd mk1;have HN:=Hd (new_yes n 1 w (by omega) (by omega) (by omega));clear mk1;go_enter func26,ntmps26
 go_wp2_with fail
 refine HN.out.mono ?_;clear HN;rintro e w1⟨rb,FR,rfl,hR,hF,hf⟩;have HR:=Hd hR;have HF:=Hd hF;have HFr:=Hd hf;have mk1:=MK.out w1;clear hR hF hf;go_wp2;go_returns;have hz:=HFr.out.size;have hfA:Fr NoF w1 ((w1.alloc (.cells (madeCells #[.bool false] n) 4)).alloc (.cells #[.pointer (some ⟨rb,0,none⟩),.slice (some ⟨w1.heap.size,0,none⟩) n n,.int .i64 0] 129)):=((Fr.refl _ _).alloc _).alloc _;have hlt:=HR.out.lt;refine⟨w1.heap.size+1,fun i=>i=w1.heap.size+1∨i=w1.heap.size∨FR i,rfl,⟨rb,w1.heap.size,FR,⟨?_,?_,HR.out.fr hfA (fun _ _ q=>q),by omega,fun q=>by have:=hlt _ q;omega,fun q=>by have:=hlt _ q;omega,fun f hf=>(by cases hf),hn⟩,fun _=>Iff.rfl⟩,?_,HFr.out.trans hfA (fun _ q=>q.elim)⟩
 .refine Blk.new _ _ _ 3 _ _ (by simp) rfl (fun i hi=>?_)
  match i,hi with
  |0,_=>rfl
  |1,_=>rfl
  |2,_=>rfl
 .refine(Blk.new _ _ _ n _ _ rfl (by simp[size_madeCells]) (fun i hi=>?_)).alloc _
  rw[made_get hi,show(#[Value.bool false]:Array Value).size=1 from rfl,Nat.mod_one];rfl
 .intro i hi
  rcases hi with rfl|rfl|q
  .omega
  .omega
  .exact HF.out i q
end
section
open Go.Maps Go.Proofs.Tryz Go.RowKit
section
variable{w w':World}{n:Nat}
theorem n4(w:World)(h:1<=n∧n<=65535):Calls prog 26 #[.int .i64 n] w fun e w'=>∃b F,e=.returned (.tuple #[.pointer (some ⟨b,0,none⟩),.int .i64 0])∧NewRep n true (repV4 b) w' F∧(∀i,F i->w.heap.size<=i)∧Fr NoF w w':=
 (lru_new_yes n w h.1 (by omega)).mono fun e w' ⟨b,F,he,h1,h2,h3⟩=>⟨b,F,he,new4 h1,h2,h3⟩
theorem n5(w:World)(h:1<=n∧n<=65535):Calls prog 27 #[.int .i64 n,.int .i64 2,.int .i64 1,.int .i64 n] w fun e w'=>∃b F,e=.returned (.tuple #[.pointer (some ⟨b,0,none⟩),.int .i64 0])∧NewRep n true (repV5 b) w' F∧(∀i,F i->w.heap.size<=i)∧Fr NoF w w':=
 (crl_new n 2 1 n w ⟨h.1,by omega⟩ (by omega) (by omega) (by omega)).mono fun e w' ⟨b,F,he,h1,h2,h3⟩=>⟨b,F,he,new5 h1,h2,h3⟩
theorem n6(w:World)(h:1<=n∧n<=65535):Calls prog 28 #[.int .i64 n,.int .i64 (n/4:Nat),.int .i64 (n/2:Nat)] w fun e w'=>∃b F,e=.returned (.tuple #[.pointer (some ⟨b,0,none⟩),.int .i64 0])∧NewRep n true (repV6 b) w' F∧(∀i,F i->w.heap.size<=i)∧Fr NoF w w':=
 (tq_new_yes n (n/4) (n/2) w h.1 (by omega) (by omega) (by omega)).mono fun e w' ⟨b,F,he,h1,h2,h3⟩=>⟨b,F,he,new6 h1,h2,h3⟩
theorem n7(w:World)(h:1<=n∧n<=65535):Calls prog 29 #[.int .i64 n] w fun e w'=>∃b F,e=.returned (.tuple #[.pointer (some ⟨b,0,none⟩),.int .i64 0])∧NewRep n true (repV7 b) w' F∧(∀i,F i->w.heap.size<=i)∧Fr NoF w w':=
 (ar_new_yes n w h.1 (by omega)).mono fun e w' ⟨b,F,he,h1,h2,h3⟩=>⟨b,F,he,new7 h1,h2,h3⟩
theorem n8(w:World)(h:1<=n∧n<=65535):Calls prog 30 #[.int .i64 n] w fun e w'=>∃b F,e=.returned (.tuple #[.pointer (some ⟨b,0,none⟩),.int .i64 0])∧NewRep n true (repV8 b) w' F∧(∀i,F i->w.heap.size<=i)∧Fr NoF w w':=
 (pr_new_yes n w h.1 (by omega)).mono fun e w' ⟨b,F,he,h1,h2,h3⟩=>⟨b,F,he,new8 h.1 (by omega) h1,h2,h3⟩
theorem div4{n:Nat}(h:n<=65535):Int.tdiv (n:Int) 4=((n/4:Nat):Int):=rfl
theorem div2{n:Nat}(h:n<=65535):Int.tdiv (n:Int) 2=((n/2:Nat):Int):=rfl
theorem madeL_calls(k:Nat)(hk:k<6)(w:World)(h:1<=n∧n<=6):Calls prog 15 #[.int .i64 k,.int .i64 n] w fun e w'=>e=.returned (.bool true)∧Fr NoF w w':=by
 have HN:=Hd (show 1<=n∧n<=65535 from⟨h.1,by omega⟩);obtain⟨h1,h2⟩:=h;have h0:Hid (Fr NoF w w):=Fr.refl _ _;have HK:=Hd hk;go_enter func15,ntmps15
 go_wp2_with fail
 refine(n4 _ HN.out).mono ?_;rintro e w1⟨b1,F,rfl,_,_,a3⟩;have g1:=Hd a3;clear a3
 go_wp2_with fail
 refine(n5 _ HN.out).mono ?_;rintro e w2⟨b2,F,rfl,_,_,a3⟩;have g2:=Hd (g1.out.trans a3 (fun _ q=>q.elim));clear a3 g1
 go_wp2_with fail
 refine(n6 _ HN.out).mono ?_;rintro e w3⟨b3,F,rfl,_,_,a3⟩;have g3:=Hd (g2.out.trans a3 (fun _ q=>q.elim));clear a3 g2
 go_wp2_with fail
 refine(n7 _ HN.out).mono ?_;rintro e w4⟨b4,F,rfl,_,_,a3⟩;have g4:=Hd (g3.out.trans a3 (fun _ q=>q.elim));clear a3 g3
 go_wp2_with fail
 refine(n8 _ HN.out).mono ?_;rintro e w5⟨b5,F,rfl,_,_,a3⟩;have g5:=Hd (g4.out.trans a3 (fun _ q=>q.elim));clear a3 g4;rcases(by omega:k=0∨k=1∨k=2∨k=3∨k=4∨k=5)with rfl|rfl|rfl|rfl|rfl|rfl
 all_goals go_wp2
 all_goals go_returns
 all_goals first|exact⟨rfl,g5.out⟩|exact⟨rfl,g5.out.alloc _⟩
end
end
end Go.Proofs.YtoenclhimbpfeaaGreatDoor
