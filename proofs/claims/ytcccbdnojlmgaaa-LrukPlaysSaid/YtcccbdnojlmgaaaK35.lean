/- Part 35. -/
import Derived.Test.YtcccbdnojlmgaaaK34
namespace Go.Proofs.Ytcccbdnojlmgaaa
set_option linter.all false
set_option maxHeartbeats 16000000
set_option maxRecDepth 100000
section
open Go.RowKit
section
variable{w w' w0 w2:World}{pb gb ob n K near kept:Nat}{hc hc':Nat->Value}{s s':S5}{pv pv':List (Pa×Value)}{F0 D0:Nat->Prop}
theorem P5.trans(h:P5 w0 F0 D0 pb gb ob n K near kept w hc s pv)(k:P5 w (F5 pb gb ob hc) (D5 pb gb ob hc s pv) pb gb ob n K near kept w2 hc' s' pv'):P5 w0 F0 D0 pb gb ob n K near kept w2 hc' s' pv':=
 ⟨k.m,h.f.trans k.f (fun i q=>h.s0 i q),fun i q=>(k.s0 i q).elim (fun q=>h.s0 i q) (fun q=>.inr (Nat.le_trans h.f.size q)),fun i q=>(k.d i q).elim (fun q=>h.d i q) (fun q=>.inr (Nat.le_trans h.f.size q))⟩
theorem M5.head(h:M5 w pb gb ob n K near kept hc s pv){b off c i:Nat}(e:hc 6=.slice (some ⟨b,off,none⟩) pv.length c)(hi:i<pv.length):SlC w 3 (.slice (some ⟨b,off,none⟩) i c) i (cells5 (pv.take i)):=by
 have hs:=h.sl;rw[e]at hs;obtain⟨_,_,e2,h1,_⟩:=hs.shape;simp only[Value.slice.injEq]at e2;obtain⟨_,_,rfl⟩:=e2;obtain⟨b',off',e2,hs2⟩:=hs.cut (lo:=0) (hi:=i) (Nat.zero_le _) (by omega) rfl (by omega);simp only[Option.some.injEq,Addr.mk.injEq]at e2;obtain⟨rfl,rfl,_⟩:=e2;have e3:((cells5 pv).drop (0*3)).take ((i-0)*3)=cells5 (pv.take i):=by rw[<-cells5_take];simp
 rw[e3]at hs2;simpa using hs2
theorem M5.tail(h:M5 w pb gb ob n K near kept hc s pv){b off c i:Nat}(e:hc 6=.slice (some ⟨b,off,none⟩) pv.length c)(hi:i<pv.length):SlC w 3 (.slice (if c=i+1 then some ⟨b,off,none⟩else some ⟨b,off+(i+1)*3,none⟩) (pv.length-(i+1)) (c-(i+1))) (pv.length-(i+1)) (cells5 (pv.drop (i+1))):=by
 have hs:=h.sl;rw[e]at hs;obtain⟨_,_,e2,h1,h2⟩:=hs.shape;simp only[Value.slice.injEq]at e2;obtain⟨_,_,rfl⟩:=e2;by_cases hc:c=i+1
 .rw[if_pos hc]
  have:pv.drop (i+1)=[]:=by apply List.eq_nil_of_length_eq_zero;rw[List.length_drop];omega
  rw[this,show pv.length-(i+1)=0 from by omega,show c-(i+1)=0 from by omega];exact⟨_,0,rfl,by simp[cells5],by simp[cells5],Nat.le_refl _,by unfold maxLen;omega,.inr ⟨b,off,rfl,hs.lt b rfl,fun j u hj=>by simp[cells5]at hj⟩⟩
 .rw[if_neg hc]
  obtain⟨b',off',e2,hs2⟩:=hs.cut (lo:=i+1) (hi:=pv.length) (by omega) (Nat.le_refl _) rfl (by omega);simp only[Option.some.injEq,Addr.mk.injEq]at e2;obtain⟨rfl,rfl,_⟩:=e2
  have e3:((cells5 pv).drop ((i+1)*3)).take ((pv.length-(i+1))*3)=cells5 (pv.drop (i+1)):=by
   rw[cells5_drop,List.take_of_length_le (by rw[cells5_len,List.length_drop];omega)]
  rw[e3]at hs2;exact hs2
theorem _root_.Go.World.ownsRow.base0{w:World}{base e size n:Nat}{v:Value}{xs:List Value}(h:w.ownsRow base e size v n xs):w.ownsRow 0 e size v n xs:=by
 obtain⟨h1,h2⟩:=h;refine⟨h1,h2.imp id ?_⟩;rintro⟨g,cap,cur,e1,hg,r⟩;exact⟨g,cap,cur,e1,Nat.zero_le _,r⟩
theorem dropP_self{ps:List Pa}{x:Nat}(h:∀q∈ps,¬q.p=x):dropP ps x=ps:=by
 unfold dropP;rw[List.filter_eq_self];intro q hq;simpa using h q hq
theorem s5_forget(h:M5 w pb gb ob n K near kept hc s pv)(hl:pv.length<100000)(ho:OneP s.ps)(x:Nat):Calls Try.prog 43 #[.pointer (some ⟨pb,0,none⟩),.int .u32 x] w fun e w'=>e=.returned (.tuple #[])∧Res5 w pb gb ob n K near kept hc s pv ⟨s.page,s.on,dropP s.ps x,s.old,s.T⟩ w':=by
 have HO:=Lib.hid (s5_of h (by omega) x);have HM:=Lib.hid h
 cases ei:idxP s.ps x with
 |none=>
  rw[ei]at HO;have R:Hid (Res5 w pb gb ob n K near kept hc s pv ⟨s.page,s.on,dropP s.ps x,s.old,s.T⟩ w):=⟨hc,pv,by rw[dropP_self (idxP_none ei)];exact P5.start HM.out⟩;clear h ei;go_enter Try.func43,Try.ntmps43
  go_wp2_with fail
  refine HO.out.mono ?_;rintro e w1⟨rfl,rfl⟩;rw[show fstI none= -1 from rfl];go_wp2;go_returns;exact⟨rfl,R.out⟩
 |some i=>
  rw[ei]at HO;obtain⟨a,ea,eax,hi⟩:=idxP_some ei;have hip:i<pv.length:=by rw[<-h.pl];exact hi
  obtain⟨b,c,e6,q1,q2,lb,_,_,_,_⟩:=h.past (List.getElem?_eq_getElem hip);obtain⟨off,hoff⟩:∃o:Nat,o=0:=⟨0,rfl⟩;rw[show(⟨b,0,none⟩:Addr)=⟨b,off,none⟩from by rw[hoff]]at e6;clear hoff;unfold maxLen at q2;have c6:=h.g.c 6 (by omega) e6;have lp:=h.g.hd.lt;have f6:=h.g.hd.frozen 6;have HFI:Hid (∀W,Fr NoF w W->SlC W 3 (.slice (some ⟨b,off,none⟩) i c) i (cells5 (pv.take i))):=fun W f=>(h.head e6 hip).keep f
  obtain⟨AD,hAD,hLA2⟩:∃AD,(if c=i+1 then some ⟨b,off,none⟩else some ⟨b,off+(i+1)*3,none⟩)=AD∧Hid (∀W,Fr NoF w W->SlC W 3 (.slice AD (pv.length-(i+1)) (c-(i+1))) (pv.length-(i+1)) (cells5 (pv.drop (i+1)))):=⟨_,rfl,fun W f=>(h.tail e6 hip).keep f⟩;have HOW:Hid (∀W,Fr NoF (w.alloc (.cells #[] 97)) W->W.ownsRow w.heap.size 97 3 (.slice (some ⟨w.heap.size,0,none⟩) 0 0) 0 []):=fun W f=>own_keep (own_new (w0:=w) (Nat.le_refl _) #[] 97 3 0 _ rfl rfl (by unfold maxLen;omega)) f (fun _ _ q=>q)
  have KC:Hid (∀W,Fr NoF w W->W.cell? ⟨pb,6,none⟩=some (.slice (some ⟨b,off,none⟩) pv.length c)∧W.frozen? ⟨pb,6,none⟩=false∧pb<W.heap.size):=fun W f=>⟨(h.fr0 f).g.c 6 (by omega) e6,(h.fr0 f).g.hd.frozen 6,(h.fr0 f).g.hd.lt⟩
  have HONE:Hid (∀u∈cells5 pv,u.oneCell'=true):=cells5_one (fun x hx=>(h.ts x hx).1);have HO1:Hid (∀u∈cells5 (pv.take i),u.oneCell'=true):=cells5_one (fun x hx=>(h.ts x (List.mem_of_mem_take hx)).1);have HO2:Hid (∀u∈cells5 (pv.drop (i+1)),u.oneCell'=true):=cells5_one (fun x hx=>(h.ts x (List.mem_of_mem_drop hx)).1);have HCUT:Hid (s.ps.take i++s.ps.drop (i+1)=dropP s.ps x):=by unfold Hid;rw[<-eax];exact cut_dropP ho ea
  have FIN:Hid (∀w6 v6,w6.ownsRow w.heap.size 97 3 v6 (i+(pv.length-(i+1))) (cells5 (pv.take i)++cells5 (pv.drop (i+1)))->Fr NoF w w6->Res5 w pb gb ob n K near kept hc s pv ⟨s.page,s.on,dropP s.ps x,s.old,s.T⟩ (w6.setCell ⟨pb,6,none⟩ v6)):=by
   intro w6 v6 hown f;have hlen:(pv.take i++pv.drop (i+1)).length=i+(pv.length-(i+1)):=by rw[List.length_append,List.length_take,List.length_drop,Nat.min_eq_left (by omega)]
   rw[<-cells5_append,<-hlen]at hown;have hb:=ownBlock_own hown;have hown0:w6.ownsRow 0 97 3 v6 (pv.take i++pv.drop (i+1)).length (cells5 (pv.take i++pv.drop (i+1))):=hown.base0
   have hp:=(P5.start HM.out).setPs (pv':=pv.take i++pv.drop (i+1)) f.none hown0 (fun b q=>.inr (hb b q)) (fun y hy=>.inl (by
    rcases List.mem_append.1 hy with q|q
    .exact List.mem_of_mem_take q
    .exact List.mem_of_mem_drop q))
   have e:(pv.take i++pv.drop (i+1)).map (·.1)=dropP s.ps x:=by
    rw[<-HCUT.out,HM.out.ps,List.map_append,List.map_take,List.map_drop]
   rw[e]at hp;exact⟨_,_,hp⟩
  clear h ei eax ea ho e6;have hkc:i<=c:=by omega
  have hk1:i+1<=pv.length:=hip;have hk2:i+1<=c:=by omega
  have hki1:0<=(i:Int)+1:=by omega
  have hki2:(i:Int)+1<=(pv.length:Int):=by omega
  have hkw:IntKind.i64.wrap ((i:Int)+1)=((i+1:Nat):Int):=IntWalk.i64_in _ (by omega);go_enter Try.func43,Try.ntmps43
  go_wp2_with fail
  refine HO.out.mono ?_;rintro e w1⟨rfl,rfl⟩;rw[show fstI (some i)=(i:Int)from rfl];go_wp2
  go_region_law(first
   |(refine appSB (base:=w.heap.size) EIp rfl (.tmp 11) (.tmp 17) rfl (by rfl) (by rfl) (by simp;try omega) (HOW.out _ (by repeat(first|exact Fr.refl NoF _|apply Fr.drew|apply Fr.alloc))) (HFI.out _ (by repeat(first|exact Fr.refl NoF _|apply Fr.drew|apply Fr.alloc))) (by unfold maxLen;omega) (by omega) ?_;intro v5 w5 hown5 hf5 hob5;rw[Nat.zero_add,List.nil_append]at hown5;obtain⟨a5,c5,rfl,_,_⟩:=(SlC.ofOwn hown5 HO1.out).shape;have HO5:=Lib.hid hown5;have HF5:=Lib.hid (Fr.trans (F:=NoF) (a:=w) (by repeat(first|exact Fr.refl NoF _|apply Fr.drew|apply Fr.alloc)) hf5 (fun i q=>.inr (by cases q;exact Nat.le_refl _)));obtain⟨x1,x2,x3⟩:=KC.out w5 HF5.out;have hs5:=HF5.out.size;clear hown5 hf5 hob5)
   |(refine appSB (base:=w.heap.size) EIp rfl (.tmp 18) (.tmp 25) rfl (by rfl) (by rfl) hs5 HO5.out (hLA2.out _ HF5.out) (by unfold maxLen;omega) (by omega) ?_;intro v6 w6 hown6 hf6 hob6;obtain⟨a6,c6',rfl,_,_⟩:=(SlC.ofOwn hown6 (fun u hu=>by rcases List.mem_append.1 hu with q|q;exact HO1.out u q;exact HO2.out u q)).shape;have HO6:=Lib.hid hown6;have HF6:=Lib.hid (HF5.out.trans hf6 (fun i q=>.inr (ownBlock_own HO5.out i q)));obtain⟨y1,y2,y3⟩:=KC.out w6 HF6.out;clear hown6 hf6 hob6))
  all_goals
   go_wp2;go_returns;exact⟨rfl,FIN.out _ _ HO6.out HF6.out⟩
end
end
end Go.Proofs.Ytcccbdnojlmgaaa
