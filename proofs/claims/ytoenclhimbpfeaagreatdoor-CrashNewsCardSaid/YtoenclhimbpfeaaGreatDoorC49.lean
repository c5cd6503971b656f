/-
  CrashNews: of all frames and names it is told whether there is such a pool: the row, and its card. No condition of its own; the library's table of trailing zeros (math/bits.deBruijn64tab) is as its initialiser lays it: the card ties it to the program's text.
-/
import Derived.Test.YtoenclhimbpfeaaGreatDoorC46
import Derived.Test.YtoenclhimbpfeaaGreatDoorC48
import Derived.Test.YtoenclhimbpfeaaGreatDoorTie
import Derived.Lib.LaidTab
import Derived.Test.YtoenclhimbpfeaaGreatDoorCards
namespace Go.Proofs.YtoenclhimbpfeaaGreatDoor
set_option linter.all false
set_option maxHeartbeats 16000000
set_option maxRecDepth 100000
section
open Go.Maps Go.Proofs.Tryz Go.RowKit
section
variable{w w':World}
theorem polc_good(s:ByteArray)(n:Int)(w:World):Calls prog 14 #[.string s,.int .i64 n] w fun e w'=>∃rv,e=.returned rv∧Fr NoF w w'∧((goodN s n∧∃it iv,rv=.iface it iv)∨(¬goodN s n∧rv=.nilIface)):=
 (polc_any s n w).mono fun e w' ⟨rv,he,f,h⟩=>⟨rv,he,f,h.imp (fun⟨k,m,hk,hs,hn,hm,F,hA,_⟩=>⟨⟨⟨k,hk,hs⟩,by omega,by omega⟩,hA.1⟩) (fun⟨e1,hb⟩=>⟨fun⟨⟨k,hk,e⟩,h1,h2⟩=>by
  rcases hb with q|q
  .exact q k hk e
  .omega,e1⟩)⟩
theorem crnews_walk(s:ByteArray)(n:Int)(b:Bool)(w:World)(hT:TabT w):Calls prog 4 #[.int .i64 n,.string s,.bool b] w fun e w'=>e=.returned (.bool true)∧Fr NoF w w':=by
 have HT:=Hd hT;clear hT
 have hcase:(decide (1<=n)=false∧Hid (¬goodN s n))∨(decide (1<=n)=true∧decide (n<=65535)=false∧Hid (¬goodN s n))∨(decide (1<=n)=true∧decide (n<=65535)=true∧Hid (goodN s n↔∃k,k<5∧s=polB k)):=by
  by_cases q1:1<=n
  .by_cases q2:n<=65535
   .exact .inr (.inr ⟨by simp[q1],by simp[q2],⟨fun h=>h.1,fun h=>⟨h,q1,q2⟩⟩⟩)
   .exact .inr (.inl ⟨by simp[q1],by simp;omega,fun h=>q2 h.2.2⟩)
  .exact .inl ⟨by simp;omega,fun h=>q1 h.2.1⟩
 rcases nam_cases s with⟨k,hk,rfl⟩|⟨h0,h1,h2,h3,h4⟩
 .have hgood:(decide (1<=n)=false∧Hid (¬goodN (polB k) n))∨(decide (1<=n)=true∧decide (n<=65535)=false∧Hid (¬goodN (polB k) n))∨(decide (1<=n)=true∧decide (n<=65535)=true∧Hid (goodN (polB k) n)):=hcase.imp id (Or.imp id (fun⟨a,b,c⟩=>⟨a,b,c.out.2 ⟨k,hk,rfl⟩⟩))
  clear hcase;rcases(by omega:k=0∨k=1∨k=2∨k=3∨k=4)with rfl|rfl|rfl|rfl|rfl
  all_goals simp only[polB]at*
  all_goals rcases hgood with⟨g1,HG⟩|⟨g1,g2,HG⟩|⟨g1,g2,HG⟩
  all_goals cases b
  all_goals
   go_enter func4,ntmps4
   go_wp2_with fail
   refine(cd_new 3 _ (by omega) (by omega)).mono ?_;rintro e w1⟨db,FD,rfl,d1,d2,d3⟩;have F2:Hid (Fr NoF w (w1.alloc (.cells #[.int .i64 0,.int .u32 0,.int .u64 0] 36))):=d3.alloc _;have BO:=blkAn w1 (.int .i64 0) (.int .u32 0) (.int .u64 0) (t:=36);have HR:=Hd (fun(s:ByteArray)=>rep_any s n 9 (by unfold isI63;omega) (d1.fr0 ((Fr.refl NoF w1).alloc _)) (by omega) (HT.out.fr0 F2.out) BO.lt ⟨BO.cell (by omega),BO.cell (by omega),BO.cell (by omega)⟩ (oc:=1));clear d1 d2 d3 BO
   go_wp2_with fail
   first
    |(with_reducible refine(rep_nil _ n _ _ _ _ _).mono ?_
      rintro e w2⟨rfl,f2⟩)
    |(with_reducible refine(HR.out _).mono ?_
      rintro e w2⟨⟨a,l,rfl,hgl⟩,f2⟩;rcases hgl with⟨hg,⟨ad,c,rfl⟩,lb,rfl⟩|⟨hg,rfl,rfl⟩
      all_goals(try first|exact absurd hg HG.out|exact absurd HG.out hg)
      clear hg)
   have F3:=Hd (F2.out.trans f2 (fun _ q=>.inl q));clear f2 F2 HR
   go_wp2_with fail
   refine(polc_good _ n _).mono ?_;rintro e w3⟨rv,rfl,f3,hrv⟩;rcases hrv with⟨hg,it,iv,rfl⟩|⟨hg,rfl⟩
   all_goals(try first|exact absurd hg HG.out|exact absurd HG.out hg)
   have F4:=Hd (F3.out.trans f3 (fun _ q=>.inl q));clear f3 F3 hg
   go_wp2_with fail
   refine(toldC_calls _).mono ?_;rintro e w4⟨rfl,f4⟩;have F5:=Hd (F4.out.trans f4 (fun _ q=>.inl q));clear f4 F4
   go_wp2_with fail
   refine(madeL_calls (n:=1) 5 (by omega) _ (by omega)).mono ?_;rintro e w5⟨rfl,f5⟩;have F6:=Hd (F5.out.trans f5 (fun _ q=>.inl q));clear f5 F5;go_wp2;go_returns;exact⟨by first|rfl|simp,F6.out⟩
 .have hbad:(decide (1<=n)=false∧Hid (¬goodN s n))∨(decide (1<=n)=true∧decide (n<=65535)=false∧Hid (¬goodN s n))∨(decide (1<=n)=true∧decide (n<=65535)=true∧Hid (¬goodN s n)):=hcase.imp id (Or.imp id (fun⟨a,b,c⟩=>⟨a,b,fun h=>by
   obtain⟨⟨k,hk,e⟩,_⟩:=h;subst e;rcases(by omega:k=0∨k=1∨k=2∨k=3∨k=4)with rfl|rfl|rfl|rfl|rfl
   .simp[polB]at h0
   .simp[polB]at h1
   .simp[polB]at h2
   .simp[polB]at h3
   .simp[polB]at h4⟩))
  clear hcase;rcases hbad with⟨g1,HG⟩|⟨g1,g2,HG⟩|⟨g1,g2,HG⟩
  all_goals cases b
  all_goals
   go_enter func4,ntmps4
   go_wp2_with fail
   refine(cd_new 3 _ (by omega) (by omega)).mono ?_;rintro e w1⟨db,FD,rfl,d1,d2,d3⟩;have F2:Hid (Fr NoF w (w1.alloc (.cells #[.int .i64 0,.int .u32 0,.int .u64 0] 36))):=d3.alloc _;have BO:=blkAn w1 (.int .i64 0) (.int .u32 0) (.int .u64 0) (t:=36);have HR:=Hd (fun(s:ByteArray)=>rep_any s n 9 (by unfold isI63;omega) (d1.fr0 ((Fr.refl NoF w1).alloc _)) (by omega) (HT.out.fr0 F2.out) BO.lt ⟨BO.cell (by omega),BO.cell (by omega),BO.cell (by omega)⟩ (oc:=1));clear d1 d2 d3 BO
   go_wp2_with fail
   first
    |(with_reducible refine(rep_nil _ n _ _ _ _ _).mono ?_
      rintro e w2⟨rfl,f2⟩)
    |(with_reducible refine(HR.out _).mono ?_
      rintro e w2⟨⟨a,l,rfl,hgl⟩,f2⟩;rcases hgl with⟨hg,⟨ad,c,rfl⟩,lb,rfl⟩|⟨hg,rfl,rfl⟩
      all_goals(try first|exact absurd hg HG.out|exact absurd HG.out hg)
      clear hg)
   have F3:=Hd (F2.out.trans f2 (fun _ q=>.inl q));clear f2 F2 HR
   go_wp2_with fail
   refine(polc_good _ n _).mono ?_;rintro e w3⟨rv,rfl,f3,hrv⟩;rcases hrv with⟨hg,it,iv,rfl⟩|⟨hg,rfl⟩
   all_goals(try first|exact absurd hg HG.out|exact absurd HG.out hg)
   have F4:=Hd (F3.out.trans f3 (fun _ q=>.inl q));clear f3 F3 hg
   go_wp2_with fail
   refine(toldC_calls _).mono ?_;rintro e w4⟨rfl,f4⟩;have F5:=Hd (F4.out.trans f4 (fun _ q=>.inl q));clear f4 F4
   go_wp2_with fail
   refine(madeL_calls (n:=1) 5 (by omega) _ (by omega)).mono ?_;rintro e w5⟨rfl,f5⟩;have F6:=Hd (F5.out.trans f5 (fun _ q=>.inl q));clear f5 F5;go_wp2;go_returns;exact⟨by first|rfl|simp,F6.out⟩
end
end
section
open Go.ChangeAt Go.ChangeShapes Go.Proofs.Tryz Go.RowKit Go.WideShapes
def tabZ:List Int:=Lib.deBruijn64tab.map fun(n:Nat)=>(n:Int)
theorem tabG:prog.globalNamed "math/bits.deBruijn64tab" =some 0:=by kernel_rfl
theorem tabT_of{W:World}(h:laidMet prog [("math/bits.deBruijn64tab",Lib.tabData .u8 tabZ)] W):TabT W:=by
 have h1:=Lib.tabIs_of_head (t:=224) (e:=5) (n:=64) tabG (by kernel_rfl) underlying224 underlying5 (by kernel_rfl) (by kernel_rfl) h;refine⟨fun j hj=>?_⟩;have h2:=h1.cell tabG j (by simpa[tabZ]using hj);rw[h2]
 congr 2
 unfold tabZ;rw[List.getD_eq_getElem?_getD,List.getElem?_map,List.getD_eq_getElem?_getD];have:j<Lib.deBruijn64tab.length:=hj;simp[List.getElem?_eq_getElem this]
noncomputable def tabWorld(os:Os):World:=
 let w0:=World.holding prog os ⟨#[],#[],[]⟩
 {w0 with heap:=w0.heap.modify 0 fun
   |.cells _ t frozen=>.cells (tabZ.map fun z=>Value.int .u8 z).toArray t frozen
   |o=>o}
theorem tab_met(os:Os)(args:Array Value):laidMet prog [("math/bits.deBruijn64tab",Lib.tabData .u8 tabZ)] ((tabWorld os).forCall (fun _ _=>0) ⟨#[],args,[]⟩).memory:=
 laidMet_of_run' 8 (by kernel_rfl) (by kernel_rfl)
theorem ownM:ownKnob prog.godebug=none:=by kernel_rfl
end
section
open Go.ChangeAt Go.ChangeMaps Go.ChangeShapes Go.Proofs.Tryz Go.RowKit Go.WideShapes
namespace crashNews
theorem lifted(os:Os)(started:os.Started)(H:Type)(enc:TypeId×Value->H):
  ReturnsInHanded {} Tryz.checked os 4 .any (fun w args=>(Rows.crashNewsSpec.pre enc prog Tryz.f4 Rows.crashNewsRow.domain false w args∧laidMet prog Rows.crashNewsRow.laid w)∧sizedMet enc prog Tryz.f4 (OpenSpec.ofChange Rows.crashNewsSpec) false w args)
   (Rows.crashNewsSpec.post enc prog Tryz.f4 false true false false):=by
 refine returnsInHanded_of_change_and (C:=Tryz.checked) (X:=fun w _=>laidMet prog Rows.crashNewsRow.laid w) (fun _ _ _ hh h=>h.of_heap hh) ownM started (by kernel_rfl) func4
  (ChangeSpec.witness_at (enc:=enc) (C:=Tryz.checked) (os:=os) (X:=fun w _=>laidMet prog Rows.crashNewsRow.laid w) false (tabWorld os) #[.int .i64 0,.string ⟨#[]⟩,.bool false] 8 rfl (by kernel_rfl) (by kernel_rfl) (by kernel_rfl) (by kernel_rfl) (by kernel_rfl) (tab_met os _)) ?_
 intro W base args ds gs before hval0 hW _ _ hL _;have hval:∀(j:Nat) t v,Tryz.f4.params[j]?=some t->args[j]?=some v->Value.okWide prog W .any base t v:=hval0;have hW':=hW;obtain⟨p,q,hA0,hV,rfl,hfz,hnd⟩:=hW;have hA:DataW.TrodAll enc prog W 0 (fun _=>true) true Tryz.f4.params.toList args.toList ds p:=hA0;rw[Tryz.params4]at hA hval;obtain⟨v0,vs0,d0,ds0,p0,q0,hargs,rfl,rfl,h0,r0⟩:=trodAll_cons hA;obtain⟨v1,vs1,d1,ds1,p1,q1,rfl,rfl,rfl,h1,r1⟩:=trodAll_cons r0;obtain⟨v2,vs2,d2,ds2,p2,q2,rfl,rfl,rfl,h2,r2⟩:=trodAll_cons r1;obtain⟨rfl,rfl,rfl⟩:=trodAll_nil r2;obtain rfl:args=#[v0,v1,v2]:=by cases args;simp_all
 obtain⟨rfl,rfl⟩:=trodVars_none hV;obtain⟨a0,rfl,rfl,rfl,w0⟩:=open_int underlying3 (hval 0 3 v0 rfl rfl) h0;obtain⟨a1,rfl,rfl,rfl,w1⟩:=open_string underlying9 (hval 1 9 v1 rfl rfl) h1;obtain⟨a2,rfl,rfl,rfl⟩:=open_bool underlying4 (hval 2 4 v2 rfl rfl) h2;clear hA0 hval0;have hT:TabT W:=tabT_of hL;simp only[List.append_nil]at hW';refine(crnews_walk a1 a0 a2 W hT).mono fun e W' ⟨he,hf⟩=>?_
 subst he;exact⟨_,rfl,_,_,_,[],[],[],hW',trodAll_cons_mk (shut_bool underlying4 _) trodAll_mk0,trodAll_cons_mk (shut_int underlying3 w0) (trodAll_cons_mk (shut_string underlying9 w1) (trodAll_cons_mk (shut_bool underlying4 _) trodAll_mk0)),rfl,hf.below.frame _,fun h=>by cases h⟩
theorem said:Rows.CrashNewsSaid:=
 OpenClaim.holds_of_wide 4 Tryz.f4 rfl rfl rfl rfl rfl rfl rfl ⟨rfl,rfl,rfl,rfl,rfl⟩ rfl rfl rfl rfl rfl (by kernel_rfl) func4 (by kernel_rfl)
  (of_decide_eq_true (by kernel_rfl)) (by unfold Func.isWrapper;first|(rw[if_pos (by decide+kernel)];kernel_rfl)|(rw[if_neg (by decide+kernel)];exact⟨rfl,rfl⟩))
  (fun os started H enc _=>lifted os started H enc)
theorem proved:Rows.CrashNewsCardSaid:=
 Claim7.holds_tied_plain_at .later [] [.data] true (true, "99ee563aca6a7084c4f1897ba00dd9f31f89e3f881e5bfa6a5a3e7c19587da1c") true
  said (fun _ h=>by cases h) (by kernel_rfl) (fun _ h=>by cases h) crashNews_row_tie rfl ⟨rfl,rfl⟩ (by kernel_rfl) rfl
  (fun f fn hf hfn=>by
   obtain rfl:f=4:=Option.some.inj ((show prog.funcNamed "hatcheck/hatchecklaw12.CrashNews" =some 4 by kernel_rfl).symm.trans hf)|>.symm
   obtain rfl:fn=Tryz.f4:=(Option.some.inj (func4.symm.trans hfn)).symm
   exact⟨by kernel_rfl,fun j t ht=>by
    rw[Tryz.params4]at ht
    have h3:t=3∨t=9∨t=4:=by
     rcases j with _|_|_|j
     .left;simpa using ht.symm
     .right;left;simpa using ht.symm
     .right;right;simpa using ht.symm
     .simp at ht
    rcases h3 with rfl|rfl|rfl
    .exact(show prog.wantsStandIn 3=false by kernel_rfl)
    .exact(show prog.wantsStandIn 9=false by kernel_rfl)
    .exact(show prog.wantsStandIn 4=false by kernel_rfl)⟩)
  (by kernel_rfl)
#print axioms proved
end crashNews
end
end Go.Proofs.YtoenclhimbpfeaaGreatDoor
