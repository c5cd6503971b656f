/- Part 22. -/
import Derived.Test.YtcccbdnojlmgaaaK21
namespace Go.Proofs.Ytcccbdnojlmgaaa
set_option linter.all false
set_option maxHeartbeats 16000000
set_option maxRecDepth 100000
section
open Go.Maps Go.RowKit
section
variable{w w':World}{lb fb mb q1 q2 q3 q4 ne:Nat}{S:LK}{FC F4:Nat->Prop}
theorem remove_calls(h:LM w lb S fb mb q1 q2 q3 q4 ne FC F4){at':Nat}(ha:at'<S.n)(hfu:(S.fr at').1=true):Calls Try.prog 104 #[.pointer (some ⟨lb,0,none⟩),.int .i64 at'] w fun e w'=>e=.returned (.tuple #[])∧∃ne',LM w' lb (remvS S at') fb mb q1 q2 q3 q4 ne' FC F4∧Fr (LF lb fb mb FC F4) w w':=by
 have HI:=Lib.hid (has_calls h ha);rw[hfu]at HI;have HE:=Lib.hid (empty_calls h ha);have HA:Hid (at'<S.n):=ha;have lt:=h.blk.lt;obtain⟨PG,hPG⟩:∃PG,PG=(S.fr at').2:=⟨_,rfl⟩;have hpk:okN PG:=by rw[hPG];exact h.ok.fr at'
 have hwf:=okN_wf hpk;have HPG:=Lib.hid hPG;have ha1:(at':Int)<S.n:=by omega
 have ha0:0<=(at':Int):=by omega
 clear h hfu ha hPG hpk;go_enter Try.func104,Try.ntmps104
 go_wp2_with fail
 refine HI.out.mono ?_;rintro e w1⟨rfl,rfl⟩
 go_wp2_with fail
 refine HE.out.mono ?_;rintro e w2⟨rfl,h2,f2⟩;have c4:w2.cell? ⟨lb,4,none⟩=some (.slice (some ⟨fb,0,none⟩) S.n S.n):=h2.ce 4 (by omega);have c5:w2.cell? ⟨lb,5,none⟩=some (.map (some mb)):=h2.ce 5 (by omega)
 have pgc:w2.cell? ⟨fb,at'*2+1,none⟩=some (.int .u32 (PG:Nat)):=by
  have:=h2.page (at':=at') HA.out;rw[show((updF S.fr at' (false,(S.fr at').2)) at').2=(S.fr at').2 from by rw[updF_same],<-HPG.out]at this;exact this
 have lt:=h2.blk.lt;have lf:=h2.frs.lt;have hd:=h2.fr0 ((Fr.refl NoF w2).drew);have HD:=Lib.hid hd;have HF2:=Lib.hid f2;clear h2 f2 hd HI HE
 go_wp2_with fail
 go_still_tail 12,(by kernel_rfl)
 change wpList _ _ _ _ _ w2.drew;generalize hwd:w2.drew=wD at*;have HWD:=Lib.hid hwd;clear hwd
 go_wp2_with(at_delete;go_must(refine wp_delV MVp HD.out.mp rfl _ _ rfl (by rfl) (by rfl) hwf ?_);intro w6 m1 m2;have KK:=Lib.hid (HD.out.forget m1 m2);have KF:=Lib.hid m2;clear m1 m2)
 go_returns
 have f3:Fr (LF lb fb mb FC F4) w wD:=by
  rw[<-HWD.out]
  exact(HF2.out.mono (fun i q=>by
   rcases q with q|q
   .exact .inr (.inl q)
   .exact .inr (.inr (.inr (.inl q))))).drew
 have hk:=KK.out;have er:remvS S at'={S with fr:=updF S.fr at' (false,(S.fr at').2),R:=updK S.R at' none,t:=lessN S.t (S.R at').isSome,P:=updO S.P PG none}:=by unfold remvS;rw[<-HPG.out]
 rw[er];exact⟨rfl,⟨_,hk⟩,f3.trans KF.out (fun i q=>.inl (.inr (.inr (.inl q))))⟩
theorem crl_remove{F:Nat->Prop}(h:CRL w lb S F){at':Nat}(ha:at'<S.n)(hfu:(S.fr at').1=true):Calls Try.prog 104 #[.pointer (some ⟨lb,0,none⟩),.int .i64 at'] w fun e w'=>e=.returned (.tuple #[])∧∃F',CRL w' lb (remvS S at') F'∧Fr F w w'∧∀i,F' i->F i∨w.heap.size<=i:=by
 obtain⟨fb,mb,q1,q2,q3,q4,ne,FC,F4,h,hF⟩:=h;refine(remove_calls h ha hfu).mono ?_;rintro e w'⟨he,ne',h',f⟩;exact⟨he,F,⟨fb,mb,q1,q2,q3,q4,ne',FC,F4,h',hF⟩,f.mono (fun i q=>(hF i).2 q),fun i q=>.inl q⟩
theorem crl_victim_no{F:Nat->Prop}(h:CRL w lb S F)(h0:S.t=0)(page:Int):Calls Try.prog 17 #[.pointer (some ⟨lb,0,none⟩),.int .u32 page] w fun e w'=>e=.returned (.tuple #[.int .i64 0,.bool false])∧Fr NoF w w':=by
 obtain⟨fb,mb,q1,q2,q3,q4,ne,FC,F4,h,hF⟩:=h;exact victim_no h h0 page
end
end
end Go.Proofs.Ytcccbdnojlmgaaa
