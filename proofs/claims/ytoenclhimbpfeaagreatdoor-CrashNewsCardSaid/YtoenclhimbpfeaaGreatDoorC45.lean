/- Part 45. -/
import Derived.Test.YtoenclhimbpfeaaGreatDoorC44
namespace Go.Proofs.YtoenclhimbpfeaaGreatDoor
set_option linter.all false
set_option maxHeartbeats 16000000
set_option maxRecDepth 100000
section
open Go.Maps Go.Proofs.Tryz Go.RowKit
def polB:Nat->ByteArray:=fun k=>match k with|0=>⟨#[108,114,117]⟩|1=>⟨#[108,114,117,107]⟩|2=>⟨#[116,119,111,113]⟩|3=>⟨#[97,114,99]⟩|_=>⟨#[112,114,111]⟩
section
variable{w w':World}{n:Nat}
theorem polc_yes(k:Nat)(hk:k<5)(w:World)(h:1<=n∧n<=65535):Calls prog 14 #[.string (polB k),.int .i64 n] w fun e w'=>∃rv,e=.returned rv∧∃F,NewRep n true rv w' F∧(∀i,F i->w.heap.size<=i)∧Fr NoF w w':=by
 have HN:=Hd h;obtain⟨h1,h2⟩:=h;have hd4:=div4 h2;have hd2:=div2 h2;rcases(by omega:k=0∨k=1∨k=2∨k=3∨k=4)with rfl|rfl|rfl|rfl|rfl
 all_goals
  simp only[polB];go_enter func14,ntmps14
  go_wp2_with fail
  first
   |refine(n4 _ HN.out).mono ?_
   |refine(n5 _ HN.out).mono ?_
   |refine(n6 _ HN.out).mono ?_
   |refine(n7 _ HN.out).mono ?_
   |refine(n8 _ HN.out).mono ?_
  rintro e w1⟨b,F,rfl,a1,a2,a3⟩;have KEY:=Hd (show∃F,NewRep n _ _ w1 F∧(∀i,F i->w.heap.size<=i)∧Fr NoF w w1 from⟨F,a1,a2,a3⟩);clear a1 a2 a3;go_wp2;go_returns;exact⟨_,rfl,KEY.out⟩
theorem polc_no(k:Nat)(hk:k<5)(n:Int)(w:World)(h:n<1∨65535<n):Calls prog 14 #[.string (polB k),.int .i64 n] w fun e w'=>e=.returned .nilIface∧w=w':=by
 have HN:=Hd h;clear h;rcases(by omega:k=0∨k=1∨k=2∨k=3∨k=4)with rfl|rfl|rfl|rfl|rfl
 all_goals
  simp only[polB];go_enter func14,ntmps14
  go_wp2_with fail
  first
   |refine(lru_new_no n _ HN.out).mono ?_
   |refine(lnew_no n 2 1 n _ (by have:=HN.out;unfold goodL;omega)).mono ?_
   |refine(tq_new_no n _ _ _ (.inl HN.out)).mono ?_
   |refine(ar_new_no n _ HN.out).mono ?_
   |refine(pr_new_no n _ HN.out).mono ?_
  rintro e w1⟨rfl,rfl⟩;go_wp2;go_returns;exact⟨rfl,rfl⟩
theorem polc_un(s:ByteArray)(h0:(s.toList==[108,114,117])=false)(h1:(s.toList==[108,114,117,107])=false)(h2:(s.toList==[116,119,111,113])=false)(h3:(s.toList==[97,114,99])=false)(h4:(s.toList==[112,114,111])=false)(n:Int)(w:World):Calls prog 14 #[.string s,.int .i64 n] w fun e w'=>e=.returned .nilIface∧w=w':=by
 go_enter func14,ntmps14;go_wp2;go_returns;exact⟨rfl,rfl⟩
theorem nam_eq{s:ByteArray}{l:List UInt8}(h:(s.toList==l)=true):s=⟨l.toArray⟩:=by
 have h:=eq_of_beq h;rw[ByteArray.toList_eq]at h;obtain⟨d⟩:=s;have e:d=l.toArray:=by rw[<-h]
 rw[e]
theorem nam_cases(s:ByteArray):(∃k,k<5∧s=polB k)∨((s.toList==[108,114,117])=false∧(s.toList==[108,114,117,107])=false∧(s.toList==[116,119,111,113])=false∧(s.toList==[97,114,99])=false∧(s.toList==[112,114,111])=false):=by
 cases h0:(s.toList==[108,114,117])with
 |true=>exact .inl ⟨0,by omega,nam_eq h0⟩
 |false=>
  cases h1:(s.toList==[108,114,117,107])with
  |true=>exact .inl ⟨1,by omega,nam_eq h1⟩
  |false=>
   cases h2:(s.toList==[116,119,111,113])with
   |true=>exact .inl ⟨2,by omega,nam_eq h2⟩
   |false=>
    cases h3:(s.toList==[97,114,99])with
    |true=>exact .inl ⟨3,by omega,nam_eq h3⟩
    |false=>
     cases h4:(s.toList==[112,114,111])with
     |true=>exact .inl ⟨4,by omega,nam_eq h4⟩
     |false=>exact .inr ⟨rfl,rfl,rfl,rfl,rfl⟩
end
def PZ(p:PP)(m:Nat)(w:World)(F:Nat->Prop):Prop:=∃(τ:Type) (P:Adv τ) (RR:World->τ->(Nat->Prop)->Prop) (ok:Nat->τ->(Nat->Nat)->(Nat->Bool)->Prop) (X:PS τ),RepSys P RR p.pb p.rv p.n ok∧PW RR ok p X m w F
theorem pzFrm{p:PP}{m:Nat}:Frm (PZ p m) where
 lt:=fun⟨τ,P,RR,ok,X,S,H⟩=>H.1.lt S
 fro:=fun⟨τ,P,RR,ok,X,S,H⟩ f hG ht=>⟨τ,P,RR,ok,X,S,H.1.fro S f hG ht,H.2⟩
section
variable{p:PP}{m n db m0 room:Nat}{w w':World}{F FD FA:Nat->Prop}{q:Bool}{rv:Value}
theorem pz_new(hcd:CD db ⟨room,[],[],[],0,0,false,0⟩ m0 w FD)(hm0:m0<=1000)(hr:NewRep n q rv w FA)(hs:∀i,FD i->¬FA i)(ht:TabT w)(ht1:¬FD 0∧¬FA 0)(hn:1<=n∧n<=65535)(hroom:room<=65535):
  Calls prog 19 #[.pointer (some ⟨db,0,none⟩),.int .i64 n,rv] w fun e w'=>∃p:PP,p.db=db∧e=.returned (.tuple #[p.ptr,.int .i64 0])∧(∃F,PZ p 1000 w' F∧(∀i,F i->FD i∨FA i∨w.heap.size<=i))∧Fr NoF w w':=by
 obtain⟨⟨it,iv,hiv⟩,τ,P,RR,ok,s,h1,h2,h3,h4⟩:=hr;refine(pnew_pw hcd hm0 h2 (fun h f=>(h1 0).fr h f (fun _ _ q=>q)) ((h1 0).lt h2) hs ht ht1 hiv hn (Nat.zero_le _) (inv_0 n hroom) h3).mono ?_;rintro e w'⟨p,e1,e2,e3,he,⟨F,k1,k2⟩,f⟩;exact⟨p,e2,he,⟨F,⟨τ,P,RR,ok,_,by rw[e1,e3];exact h1 _,k1⟩,k2⟩,f⟩
theorem PZ.np(h:PZ p m w F)(hm:m<60000):∃a b:Nat,∀W,Fr NoF w W->Calls prog 37 #[p.ptr] W fun e w'=>e=.returned (.tuple #[.int .u32 a,.int .i64 b])∧Led (PZ p (m+10)) F W w':=by
 obtain⟨τ,P,RR,ok,X,S,H⟩:=h;refine⟨(X.newPage P p.n).1.1,(X.newPage P p.n).1.2,fun W f=>?_⟩;have H':PW RR ok p X m W F:=⟨H.1.fr0 S f,H.2⟩;exact(np_calls S H' hm).mono fun e w' ⟨he,hl⟩=>⟨he,hl.mono (fun F' h'=>⟨τ,P,RR,ok,_,S,h'⟩)⟩
theorem PZ.stop(h:PZ p m w F)(t:Int)(ht:isI63 t.toNat):Calls prog 20 #[.pointer (some ⟨p.db,0,none⟩),.int .i64 t] w fun e w'=>e=.returned (.tuple #[])∧Led (PZ p m) F w w':=by
 obtain⟨τ,P,RR,ok,X,S,H⟩:=h;refine(H.1.disk S (Q:=fun e _=>e=.returned (.tuple #[])) (Nat.le_refl m) (fun FD hd=>cd_stop hd t ht)).mono ?_;rintro e w'⟨he,hl⟩;refine⟨he,hl.mono (fun F' h'=>⟨τ,P,RR,ok,{X with D:={X.D with stops:=true,left:=(t.toNat:Int)}},S,h',?_,H.2.2⟩)⟩;obtain⟨s,hs⟩:=H.2.1.dr;exact H.2.1.disk (fun i hi h0=>H.2.1.has i hi h0) ⟨_,hs.stop t.toNat⟩ H.2.1.vd
theorem PZ.cd(h:PZ p m w F):∃D FD,CD p.db D m w FD:=by
 obtain⟨τ,P,RR,ok,X,S,H⟩:=h;obtain⟨FD,h⟩:=H.1.cdE;exact⟨_,FD,h⟩
theorem pnew_dn(n:Int)(rv:Value)(w:World):Calls prog 19 #[.pointer none,.int .i64 n,rv] w fun e w'=>e=.returned (.tuple #[.pointer none,.int .i64 1])∧w=w':=by
 go_enter func19,ntmps19;go_wp2;go_returns;exact⟨rfl,rfl⟩
theorem pnew_rn(n:Int)(db:Nat)(w:World):Calls prog 19 #[.pointer (some ⟨db,0,none⟩),.int .i64 n,.nilIface] w fun e w'=>e=.returned (.tuple #[.pointer none,.int .i64 1])∧w=w':=by
 go_enter func19,ntmps19;go_wp2;go_returns;exact⟨rfl,rfl⟩
def PolR(s:ByteArray)(n:Int)(w0:World)(rv:Value)(w:World):Prop:=Fr NoF w0 w∧((∃k m:Nat,k<5∧s=polB k∧n=(m:Int)∧(1<=m∧m<=65535)∧∃F,NewRep m true rv w F∧∀i,F i->w0.heap.size<=i)∨(rv=.nilIface∧((∀k,k<5->¬s=polB k)∨n<1∨65535<n)))
theorem polc_any(s:ByteArray)(n:Int)(w:World):Calls prog 14 #[.string s,.int .i64 n] w fun e w'=>∃rv,e=.returned rv∧PolR s n w rv w':=by
 rcases nam_cases s with⟨k,hk,rfl⟩|⟨h0,h1,h2,h3,h4⟩
 .by_cases hn:n<1∨65535<n
  .refine(polc_no k hk n w hn).mono ?_
   rintro e w'⟨rfl,rfl⟩;exact⟨_,rfl,Fr.refl _ _,.inr ⟨rfl,.inr hn⟩⟩
  .obtain⟨m,rfl⟩:∃m:Nat,n=m:=⟨n.toNat,by omega⟩
   refine(polc_yes (n:=m) k hk w (by omega)).mono ?_;rintro e w'⟨rv,rfl,F,a1,a2,a3⟩;exact⟨rv,rfl,a3,.inl ⟨k,m,hk,rfl,rfl,by omega,F,a1,a2⟩⟩
 .refine(polc_un s h0 h1 h2 h3 h4 n w).mono ?_
  rintro e w'⟨rfl,rfl⟩;refine⟨_,rfl,Fr.refl _ _,.inr ⟨rfl,.inl (fun k hk e=>?_)⟩⟩;subst e;rcases(by omega:k=0∨k=1∨k=2∨k=3∨k=4)with rfl|rfl|rfl|rfl|rfl
  .simp[polB]at h0
  .simp[polB]at h1
  .simp[polB]at h2
  .simp[polB]at h3
  .simp[polB]at h4
theorem rep_nil(s:ByteArray)(n:Int)(a:Option Addr)(k c:Nat)(t:Int)(w:World):Calls prog 9 #[.pointer none,.int .i64 n,.string s,.slice a k c,.int .i64 t] w fun e w'=>e=.returned (.tuple #[.slice none 0 0,.pointer none])∧Fr NoF w w':=by
 have HP:=Hd (polc_any s n w);go_enter func9,ntmps9
 go_wp2_with fail
 refine(nil_copy _).mono ?_;rintro e w1⟨rfl,rfl⟩
 go_wp2_with fail
 refine HP.out.mono ?_;rintro e w1⟨rv,rfl,hr⟩;have HR:=Hd hr.1;clear hr HP
 go_wp2_with fail
 refine(pnew_dn n rv _).mono ?_;rintro e w2⟨rfl,rfl⟩;go_wp2;go_returns;exact⟨rfl,HR.out⟩
end
end
end Go.Proofs.YtoenclhimbpfeaaGreatDoor
