/- Part 37. -/
import Derived.Test.YtcccbdnojlmgaaaK36
namespace Go.Proofs.Ytcccbdnojlmgaaa
set_option linter.all false
set_option maxHeartbeats 16000000
set_option maxRecDepth 100000
section
open Go.RowKit
section
variable{w w' w0 w2:World}{pb gb ob n K near kept:Nat}{hc hc':Nat->Value}{s s':S5}{pv pv':List (Pa×Value)}{F0 D0:Nat->Prop}
theorem s5_remove(h:M5 w pb gb ob n K near kept hc s pv)(hi:Inv5 K kept n s)(hT:s.T<100000){a:Nat}(ha:a<n):Calls Try.prog 25 #[.pointer (some ⟨pb,0,none⟩),.int .i64 a] w fun e w'=>e=.returned (.tuple #[])∧Res5 w pb gb ob n K near kept hc s pv (s.remove a) w':=by
 have hpl:pv.length<100000:=by rw[<-h.pl];have:=hi.len;omega
 have HF:=Lib.hid (s5_forget h hpl hi.one (s.pg a));have c4:=h.g.c 4 (by omega) h.c4;have cp:w.cell? ⟨gb,a,none⟩=some (.int .u32 (s.pg a:Nat)):=h.g.cp ha;have lg:=h.g.pg.lt;have lp:=h.g.hd.lt;have hn:=h.g.hn;have HS:=Lib.hid (show s.remove a=⟨s.page.set a 0,upd s.on a false,dropP s.ps (s.pg a),s.old,s.T⟩from rfl);generalize s.pg a=x at*;clear h hi;go_enter Try.func25,Try.ntmps25
 go_wp2_with fail
 refine HF.out.mono ?_;rintro e w1⟨rfl,hc1,pv1,hp⟩;have d1:=hp.m.g.d1;have d2:=hp.m.g.d2;have d3:=hp.m.g.d3;have d1':¬gb=pb:=fun e=>d1 e.symm
 have d2':¬ob=pb:=fun e=>d2 e.symm
 have d3':¬ob=gb:=fun e=>d3 e.symm
 have e4:=hp.m.g.c 4 (by omega) hp.m.c4;have e5:=hp.m.g.c 5 (by omega) hp.m.c5;have ep:=hp.m.g.cp ha;have eo:=hp.m.g.co ha;have fp:=hp.m.g.pg.frozen a;have fo:=hp.m.g.on.frozen a;have lg1:=hp.m.g.pg.lt;have lo1:=hp.m.g.on.lt;have lp1:=hp.m.g.hd.lt
 have KEY:Hid (∀W,Fr NoF ((w1.setCell ⟨gb,a,none⟩ (.int .u32 0)).setCell ⟨ob,a,none⟩ (.bool false)) W->Res5 w pb gb ob n K near kept hc s pv (s.remove a) W):=by
  intro W f;rw[HS.out];exact⟨_,_,((hp.setPage ha 0).setOn a false).fr0 f⟩
 clear hp c4 cp lg lp;generalize List.getD _ a 0=y1 at ep;generalize s.on a=y2 at eo;go_wp2
 go_region
 all_goals
  go_wp2;go_returns;exact⟨rfl,KEY.out _ ((Fr.refl NoF _).drew)⟩
theorem SlK.drop1{k:IntKind}{w:World}{b off c:Nat}{l:List Nat}(h:SlK k w (.slice (some ⟨b,off,none⟩) l.length c) l)(h1:1<=l.length):
  (c=1->SlK k w (.slice (some ⟨b,off,none⟩) 0 0) (l.drop 1))∧(¬c=1->SlK k w (.slice (some ⟨b,off+1,none⟩) (l.length-1) (c-1)) (l.drop 1)):=by
 have hlt:b<w.heap.size:=h.lt b rfl;obtain⟨a',c',e,_,hc,hm,_⟩:=id h;simp only[Value.slice.injEq]at e;obtain⟨rfl,_,rfl⟩:=e;refine⟨fun e=>?_,fun e=>?_⟩
 .have:l.drop 1=[]:=List.drop_eq_nil_of_le (by omega)
  rw[this];exact⟨_,_,rfl,by simp,by simp,by simp,by unfold maxLen;omega,.inr ⟨b,off,rfl,hlt,by simp⟩⟩
 .obtain⟨b',off',e2,hs⟩:=SlC.cut h (lo:=1) (hi:=l.length) h1 (Nat.le_refl _) rfl (by omega)
  simp only[Option.some.injEq,Addr.mk.injEq]at e2;obtain⟨rfl,rfl,_⟩:=e2;have hl:(l.drop 1).length=l.length-1:=by simp
  unfold SlK;rw[hl]
  have e3:((l.map fun(x:Nat)=>Value.int k (x:Int)).drop (1*1)).take ((l.length-1)*1)=(l.drop 1).map fun(x:Nat)=>Value.int k (x:Int):=by
   rw[<-List.map_drop,List.take_of_length_le (by simp)]
  rw[e3]at hs;exact hs
theorem P5.cutOld(h:P5 w0 F0 D0 pb gb ob n K near kept w hc s pv){b off c:Nat}(e7:hc 7=.slice (some ⟨b,off,none⟩) s.old.length c)(h1:1<=s.old.length):
  (c=1->P5 w0 F0 D0 pb gb ob n K near kept (w.setCell ⟨pb,7,none⟩ (.slice (some ⟨b,off,none⟩) 0 0)) (upd hc 7 (.slice (some ⟨b,off,none⟩) 0 0)) ⟨s.page,s.on,s.ps,s.old.drop 1,s.T⟩ pv)∧
  (¬c=1->P5 w0 F0 D0 pb gb ob n K near kept (w.setCell ⟨pb,7,none⟩ (.slice (some ⟨b,off+1,none⟩) (s.old.length-1) (c-1))) (upd hc 7 (.slice (some ⟨b,off+1,none⟩) (s.old.length-1) (c-1))) ⟨s.page,s.on,s.ps,s.old.drop 1,s.T⟩ pv):=by
 have hs:=(h.m.g.sl 7 .u32 s.old rfl).1;rw[e7]at hs;obtain⟨d1,d2⟩:=SlK.drop1 hs h1;exact⟨fun q=>h.setOld (d1 q) (fun b' q'=>.inr (by rw[e7];exact q')),fun q=>h.setOld (d2 q) (fun b' q'=>.inr (by rw[e7];exact q'))⟩
end
end
end Go.Proofs.Ytcccbdnojlmgaaa
