/- Part 45. -/
import Derived.Test.YtoenclhimbpfeaaGreatDoorW43
import Derived.Test.YtoenclhimbpfeaaGreatDoorW44
import Derived.Test.YtoenclhimbpfeaaGreatDoorW15
namespace Go.Proofs.YtoenclhimbpfeaaGreatDoor
set_option linter.all false
set_option maxHeartbeats 16000000
set_option maxRecDepth 100000
section
open Go.Maps Go.RowKit
theorem iV{τ:Type}{P:Pol τ}{pre:τ->Cl->Prop}{n:Nat}{ok:Nat->τ->(Nat->Nat)->(Nat->Bool)->Prop}(O:kQ P pre n ok):kO (eV P) n ok:=λm s pg ev id h hx=>by
 cases e:P.victim s id with
 |none=>exact(O.some h hx e).elim
 |some a=>exact⟨a,e,O.goer h e⟩
theorem rW{n:Nat}{r:Nat->Prop}{page:Nat->Nat}{e:Nat->Bool}(hr:∀f,¬r f)(he:∀f,e f=false):am n r page e (λ_=>0) (λ_=>true):=
 ⟨λf=>⟨λq=>(hr f q).elim,λq=>(q.2 rfl).elim⟩,λf q=>(hr f q).elim,λf q=>(hr f q).elim,λf _=>he f⟩
theorem He{n b:Nat}{w:World}{F:Nat->Prop}(h:LRu w b n [] (λ_=>false) F):co n true (vI b) w F:=
 ⟨⟨_,_,rfl⟩,LT,eV jz,As b n,ok4 n,([],λ_=>false),λpb=>GQ pb b n,h,⟨λ_=>0,rW (λf q=>by cases q) (λ_=>rfl)⟩,λ_=>iV (Gl n)⟩
theorem Er(n:Nat):bo (λ_=>none) n=0:=by
 induction n with
 |zero=>rfl
 |succ n ih=>unfold bo;rw[ih];rfl
theorem Hp{n K near kept b:Nat}{w:World}{F:Nat->Prop}(h:CRL w b (gT n K near kept) F):co n true (ur b) w F:=by
 refine⟨⟨_,_,rfl⟩,LK,eV fL,CR5 b,ok5 n,gT n K near kept,λpb=>Hg pb b n,?_,?_,λ_=>iV (FU n)⟩
 .exact⟨by show 0<800000;omega,λ_=>false,λx a b q _=>(by cases q),h⟩
 .refine⟨rfl,Nat.zero_le _,Nat.zero_le _,λf hf=>rfl,λf hf q=>(q rfl).elim,λf=>⟨λq=>(by cases q),λq=>(q.2.1 rfl).elim⟩,?_,λf hf q=>(q rfl).elim,λf g hf hg q=>(q rfl).elim⟩
  exact(Er n).symm
theorem G7{n inn out b:Nat}{w:World}{F:Nat->Prop}(h:CRT b n inn out w t60 F):co n true (uf b) w F:=
 ⟨⟨_,_,rfl⟩,T6,eV (vW inn out),CRT b n inn out,ok6 n,t60,λpb=>Hr pb b n inn out,h,rW (λf q=>by rcases q with q|q<;>cases q) (λ_=>rfl),λ_=>iV (FO n inn out)⟩
theorem GT{n b:Nat}{w:World}{F:Nat->Prop}(h:CRA b n w t70 F):co n true (uu b) w F:=
 ⟨⟨_,_,rfl⟩,T7,eV (xe n),CRA b n,ok7 n,t70,λpb=>Hc pb b n,h,rW (λf q=>by rcases q with q|q<;>cases q) (λ_=>rfl),λ_=>iV (Gp n)⟩
theorem Hq{n b:Nat}{w:World}{F:Nat->Prop}(h1:1<=n)(hn:n<=65535)(h:CRP b n w (pr0 n) F):co n true (uW b) w F:=
 ⟨⟨_,_,rfl⟩,PrS,eV (yh n),CRP b n,ok8 n,pr0 n,λpb=>G9 pb b n hn,h,⟨(pk0 h1).1,(pk0 h1).2,λf hf=>rfl,λf hf q=>(q rfl).elim⟩,λ_=>iV (Fz n)⟩
end
section
open Go.Proofs.Tryz Go.RowKit
theorem qS(n:Nat)(w:World)(h1:1<=n)(hn:n<=65535):
  Calls prog 26 #[.int .i64 n] w λe w'=>∃b F,e=.returned (.tuple #[.pointer (some ⟨b,0,none⟩),.int .i64 0])/\LRu w' b n [] (λ_=>false) F/\(∀i,F i->w.heap.size<=i)/\Fr NoF w w':=by
 have mk1:=mkB n (by omega);have MK:=Hd mk1;have HN:=Hd (gx n 1 w (by omega) (by omega) (by omega));clear mk1;go_enter func26,ntmps26
 go_wp2_with fail
 refine HN.out.mono ?_;clear HN;rintro e w1⟨rb,FR,rfl,hR,hF,hf⟩;have HR:=Hd hR;have HF:=Hd hF;have HFr:=Hd hf;have mk1:=MK.out w1;clear hR hF hf;go_wp2;go_returns;have hz:=HFr.out.size;have hfA:Fr NoF w1 ((w1.alloc (.cells (madeCells #[.bool false] n) 4)).alloc (.cells #[.pointer (some ⟨rb,0,none⟩),.slice (some ⟨w1.heap.size,0,none⟩) n n,.int .i64 0] 129)):=((Fr.refl _ _).alloc _).alloc _;have hlt:=HR.out.lt;refine⟨w1.heap.size+1,λi=>i=w1.heap.size+1\/i=w1.heap.size\/FR i,rfl,⟨rb,w1.heap.size,FR,⟨?_,?_,HR.out.fr hfA (λ_ _ q=>q),by omega,λq=>by have:=hlt _ q;omega,λq=>by have:=hlt _ q;omega,λf hf=>(by cases hf),hn⟩,λ_=>Iff.rfl⟩,?_,HFr.out.trans hfA (λ_ q=>q.elim)⟩
 .refine Blk.new _ _ _ 3 _ _ (by simp) rfl (λi hi=>?_)
  match i,hi with
  |0,_=>rfl
  |1,_=>rfl
  |2,_=>rfl
 .refine(Blk.new _ _ _ n _ _ rfl (by simp[size_madeCells]) (λi hi=>?_)).alloc _
  rw[fJ hi,show(#[Value.bool false]:Array Value).size=1 from rfl,Nat.mod_one];rfl
 .intro i hi
  rcases hi with rfl|rfl|q
  .omega
  .omega
  .exact HF.out i q
end
section
open Go.Maps Go.Proofs.Tryz Go.RowKit
section
variable{w w':World}{n:Nat}
theorem n4(w:World)(h:1<=n/\n<=65535):Calls prog 26 #[.int .i64 n] w λe w'=>∃b F,e=.returned (.tuple #[.pointer (some ⟨b,0,none⟩),.int .i64 0])/\co n true (vI b) w' F/\(∀i,F i->w.heap.size<=i)/\Fr NoF w w':=
 (qS n w h.1 (by omega)).mono λe w' ⟨b,F,he,h1,h2,h3⟩=>⟨b,F,he,He h1,h2,h3⟩
theorem n5(w:World)(h:1<=n/\n<=65535):Calls prog 27 #[.int .i64 n,.int .i64 2,.int .i64 1,.int .i64 n] w λe w'=>∃b F,e=.returned (.tuple #[.pointer (some ⟨b,0,none⟩),.int .i64 0])/\co n true (ur b) w' F/\(∀i,F i->w.heap.size<=i)/\Fr NoF w w':=
 (De n 2 1 n w ⟨h.1,by omega⟩ (by omega) (by omega) (by omega)).mono λe w' ⟨b,F,he,h1,h2,h3⟩=>⟨b,F,he,Hp h1,h2,h3⟩
theorem n6(w:World)(h:1<=n/\n<=65535):Calls prog 28 #[.int .i64 n,.int .i64 (n/4:Nat),.int .i64 (n/2:Nat)] w λe w'=>∃b F,e=.returned (.tuple #[.pointer (some ⟨b,0,none⟩),.int .i64 0])/\co n true (uf b) w' F/\(∀i,F i->w.heap.size<=i)/\Fr NoF w w':=
 (s8 n (n/4) (n/2) w h.1 (by omega) (by omega) (by omega)).mono λe w' ⟨b,F,he,h1,h2,h3⟩=>⟨b,F,he,G7 h1,h2,h3⟩
theorem n7(w:World)(h:1<=n/\n<=65535):Calls prog 29 #[.int .i64 n] w λe w'=>∃b F,e=.returned (.tuple #[.pointer (some ⟨b,0,none⟩),.int .i64 0])/\co n true (uu b) w' F/\(∀i,F i->w.heap.size<=i)/\Fr NoF w w':=
 (s6 n w h.1 (by omega)).mono λe w' ⟨b,F,he,h1,h2,h3⟩=>⟨b,F,he,GT h1,h2,h3⟩
theorem n8(w:World)(h:1<=n/\n<=65535):Calls prog 30 #[.int .i64 n] w λe w'=>∃b F,e=.returned (.tuple #[.pointer (some ⟨b,0,none⟩),.int .i64 0])/\co n true (uW b) w' F/\(∀i,F i->w.heap.size<=i)/\Fr NoF w w':=
 (sx n w h.1 (by omega)).mono λe w' ⟨b,F,he,h1,h2,h3⟩=>⟨b,F,he,Hq h.1 (by omega) h1,h2,h3⟩
theorem GY{n:Nat}(h:n<=65535):Int.tdiv (n:Int) 4=((n/4:Nat):Int):=rfl
theorem Ho{n:Nat}(h:n<=65535):Int.tdiv (n:Int) 2=((n/2:Nat):Int):=rfl
end
end
end Go.Proofs.YtoenclhimbpfeaaGreatDoor
