/- Part 28. -/
import Derived.Test.YtkjhnllcphidpaaGreatDoorM27
namespace Go.Proofs.YtkjhnllcphidpaaGreatDoor
set_option linter.all false
set_option maxHeartbeats 16000000
set_option maxRecDepth 100000
section
open Go.Maps Go.Proofs.Tryz Go.RowKit
theorem eS{P:Program}{fn:Func}{p u:Tmp}{ty:TypeId}(h:fn.results=#[.cell p ty,.tmp u])(tmps:Array Value)(w:World){g N:Nat}{c:Nat->Value}{d:TypeDesc}(hb:Blk w g N c)(hp:tmps.getD p undef=.pointer (some ⟨g,0,none⟩))
  (hu:P.underlying ty=some d)(hd:(match d with|.struct _|.array _ _=>true|_=>false)=true)(hi:(P.info? ty).map (·.size)=some N):
  (results fn tmps).run P w=.ok (.tuple #[.agg ((List.range N).map c).toArray,tmps.getD u undef]) w:=by
 obtain⟨cs,t,hh,hs,hc⟩:=hb
 have e:cs=((List.range N).map c).toArray:=by
  apply Array.ext_getElem?;intro i;by_cases hi:i<N
  .rw[hc i hi];simp[hi]
  .rw[Array.getElem?_eq_none (by omega)];simp[hi]
 rw[<-e];have hp':tmps[p]?.getD undef=.pointer (some ⟨g,0,none⟩):=by simpa using hp
 simp[results,h,hp',asAddr,run_loadVar_row w g t ty cs (0,0) d hh hu hd (by rw[hi,hs]),Result.andThen]
def hO(x:Nat):Prop:=x<4294967296
def okV(x:Nat):Prop:=x<18446744073709551616
def ew(p:Nat×Nat):Value:=.agg #[.int .u64 (p.1:Nat),.int .i64 (p.2:Nat)]
def fj:Value:=.agg #[.int .u64 0,.int .i64 0]
def pgM(pg:Nat->Option (Nat×Nat)):Int->Option Value:=λx=>if x<0 then none else(pg x.toNat).map ew
def aT(pg:Nat->Option (Nat×Nat))(id:Nat)(p:Option (Nat×Nat)):Nat->Option (Nat×Nat):=λx=>if x=id then p else pg x
theorem eC(pg:Nat->Option (Nat×Nat))(id:Nat)(p:Option (Nat×Nat)):aT pg id p id=p:=by simp[aT]
theorem bH(pg:Nat->Option (Nat×Nat)){id x:Nat}(p:Option (Nat×Nat))(h:¬x=id):aT pg id p x=pg x:=by simp[aT,h]
theorem oU(pg:Nat->Option (Nat×Nat))(id:Nat):pgM pg (id:Int)=(pg id).map ew:=by
 unfold pgM;rw[if_neg (by omega)];rfl
theorem vl(pg:Nat->Option (Nat×Nat))(id:Nat)(p:Option (Nat×Nat)):dJ (pgM pg) (id:Int) (p.map ew)=pgM (aT pg id p):=by
 funext x
 by_cases e:x=(id:Int)
 .subst e;rw[dS,oU,eC]
 .rw[du _ _ e]
  unfold pgM;by_cases h:x<0
  .rw[if_pos h,if_pos h]
  .rw[if_neg h,if_neg h,bH _ _ (by omega)]
def bn(room:Nat)(pg:Nat->Option (Nat×Nat)):Nat->Bool:=λx=>decide (x<room)&&(pg (x+1)).isNone
theorem MVm:MV prog 149 42 155 .u32 fj:=⟨underlying149,underlying42,λw=>by kernel_rfl⟩
def mC(n mb room fc:Nat)(v:Value)(pin:Nat):Nat->Value
 |0=>.int .i64 n
 |1=>.map (some mb)
 |2=>.int .i64 room
 |3=>.int .i64 fc
 |4=>v
 |_=>.int .i64 pin
structure MM(w:World)(b n room:Nat)(pg:Nat->Option (Nat×Nat))(pin len:Nat)(mb:Nat)(v:Value)(h:Nat->Nat)(L:Nat):Prop where
 lc:LC w b 2 6 (mC n mb room (cntB (bn room pg) room) v pin) room (bn room pg) v h L
 mp:MpV prog 42 .u32 fj w mb len (pgM pg)
 dom:∀id p,pg id=some p->1<=id/\id<=room
 num:len+cntB (bn room pg) room=room
 nb:¬mb=b/\¬LF v h L mb
 ok:∀id p,pg id=some p->okV p.1/\p.2<1000000
 hn:n<=65535
 hp:pin<=len
def MF(b mb:Nat)(v:Value)(h:Nat->Nat)(L:Nat):Nat->Prop:=λk=>k=b\/k=mb\/LF v h L k
section
variable{w w':World}{b n room pin len mb L:Nat}{pg:Nat->Option (Nat×Nat)}{v:Value}{h:Nat->Nat}
theorem MM.fr(H:MM w b n room pg pin len mb v h L){G:Nat->Prop}(f:Fr G w w')(hG:∀k,MF b mb v h L k->¬G k):MM w' b n room pg pin len mb v h L:=
 ⟨H.lc.fr f (hG b (.inl rfl)) (λk q=>hG k (.inr (.inr q))),H.mp.fr f (hG mb (.inr (.inl rfl))),H.dom,H.num,H.nb,H.ok,H.hn,H.hp⟩
theorem MM.fr0(H:MM w b n room pg pin len mb v h L)(f:Fr NoF w w'):MM w' b n room pg pin len mb v h L:=H.fr f (λ_ _ q=>q)
theorem MM.lt(H:MM w b n room pg pin len mb v h L):∀k,MF b mb v h L k->k<w.heap.size:=by
 rintro k(rfl|rfl|q)
 .exact H.lc.blk.lt
 .exact H.mp.lt
 .exact H.lc.ls.r.lt k q
theorem MM.ce(H:MM w b n room pg pin len mb v h L)(i:Nat)(hi:i<6):w.cell? ⟨b,i,none⟩=some (mC n mb room (cntB (bn room pg) room) v pin i):=H.lc.blk.cell hi
theorem CZ{id:Nat}(h:hO id):(Lit.int .u32 (id:Nat)).wf=true:=WalkArith.wf_u32 ⟨by omega,by unfold hO at h;omega⟩
theorem MM.look(H:MM w b n room pg pin len mb v h L){id:Nat}(hid:hO id)(W:World)(f:Fr NoF w W):
  (Instr.lookup 149 (.map (some mb)) (.int .u32 (id:Nat)) true).run prog W=.ok (.tuple #[((pg id).map ew).getD fj,.bool (pg id).isSome]) W:=by
 have:=(H.fr0 f).mp.look_ok_run MVm (CZ hid);rw[oU]at this;rw[this]
 cases pg id<;>rfl
theorem C3(H:MM w b n room pg pin len mb v h L){id:Nat}(hid:hO id):Calls prog 64 #[.pointer (some ⟨b,0,none⟩),.int .u32 id] w λe w'=>e=.returned (.int .i64 (if(pg id).isSome then 0 else 3))/\Fr NoF w w':=by
 have c1:w.cell? ⟨b,1,none⟩=some (.map (some mb)):=H.ce 1 (by omega);have lb:=H.lc.blk.lt;have lk:=H.look hid w (Fr.refl NoF w)
 cases hp:pg id with
 |none=>
  rw[hp]at lk;simp only[Option.map_none,Option.getD_none,Option.isSome_none]at lk;unfold fj at lk;clear H hp;go_enter func64,ntmps64;go_wp2;go_returns;exact⟨rfl,(Fr.refl NoF w).alloc _⟩
 |some p=>
  rw[hp]at lk;simp only[Option.map_some,Option.getD_some,Option.isSome_some]at lk;unfold ew at lk;clear H hp;go_enter func64,ntmps64;go_wp2;go_returns;exact⟨rfl,(Fr.refl NoF w).alloc _⟩
theorem oO(w:World)(u1 u2 x1 x2:Value){t t':TypeId}:Blk ((w.alloc (.cells #[u1,u2] t)).alloc (.cells #[x1,x2] t')) w.heap.size 2 (λi=>if i=0 then u1 else u2):=
 (Blk.new _ _ _ _ _ _ rfl rfl (λi hi=>by
  match i,hi with
  |0,_=>rfl
  |1,_=>rfl)).alloc _
def heldX(p:Option (Nat×Nat)):Nat:=match p with|none=>0|some p=>if p.2=0 then 0 else p.1
def heldY(p:Option (Nat×Nat)):Nat:=match p with|none=>0|some p=>p.2
def heldE(p:Option (Nat×Nat)):Int:=match p with|none=>3|some p=>if p.2=0 then 5 else 0
def rh(p:Option (Nat×Nat)):Value×Int:=(.agg #[.int .u64 (heldX p:Nat),.int .i64 (heldY p:Nat)],heldE p)
theorem tu(H:MM w b n room pg pin len mb v h L){id:Nat}(hid:hO id):Calls prog 92 #[.pointer (some ⟨b,0,none⟩),.int .u32 id] w λe w'=>e=.returned (.tuple #[(rh (pg id)).1,.int .i64 (rh (pg id)).2])/\Fr NoF w w':=by
 have c1:w.cell? ⟨b,1,none⟩=some (.map (some mb)):=H.ce 1 (by omega);have lb:=H.lc.blk.lt
 have c1':(w.alloc (.cells #[.int .u64 0,.int .i64 0] 155)).cell? ⟨b,1,none⟩=some (.map (some mb)):=by
  have:=(H.fr0 ((Fr.refl NoF w).alloc (.cells #[.int .u64 0,.int .i64 0] 155))).ce 1 (by omega);exact this
 have lk:=H.look hid (w.alloc (.cells #[.int .u64 0,.int .i64 0] 155)) ((Fr.refl NoF w).alloc _)
 cases hp:pg id with
 |none=>
  rw[hp]at lk;simp only[Option.map_none,Option.getD_none,Option.isSome_none]at lk;unfold fj at lk;clear H hp;go_enter func92,ntmps92;go_wp2
  (try simp only[Exit.inBlock,Exit.then])
  refine bodyPost_ret (eS Tryz.results92 _ _ (oO w _ _ _ _) rfl underlying155 rfl (by kernel_rfl)) rfl ?_;exact⟨rfl,((Fr.refl NoF w).alloc _).alloc _⟩
 |some p=>
  obtain⟨pv,pn⟩:=p;rw[hp]at lk;simp only[Option.map_some,Option.getD_some,Option.isSome_some]at lk;unfold ew at lk;have hpn:=(H.ok id _ hp).2;simp only at hpn;clear H hp;by_cases h0:pn=0
  .subst h0
   go_enter func92,ntmps92;go_wp2
   (try simp only[Exit.inBlock,Exit.then])
   refine bodyPost_ret (eS Tryz.results92 _ _ (oO w _ _ _ _) rfl underlying155 rfl (by kernel_rfl)) rfl ?_;exact⟨rfl,((Fr.refl NoF w).alloc _).alloc _⟩
  .have g0:((pn:Int)==0)=false:=by simpa using h0
   have HE:Hid (rh (some (pv,pn))=(ew (pv,pn),0)):=by unfold Hid rh heldX heldY heldE ew;simp[h0]
   rw[HE.out];clear h0;go_enter func92,ntmps92;go_wp2
   (try simp only[Exit.inBlock,Exit.then])
   refine bodyPost_ret (eS Tryz.results92 _ _ (oO w _ _ _ _) rfl underlying155 rfl (by kernel_rfl)) rfl ?_;exact⟨rfl,((Fr.refl NoF w).alloc _).alloc _⟩
theorem qm(H:MM w b n room pg pin len mb v h L){id:Nat}(hid:hO id):Calls prog 32 #[.pointer (some ⟨b,0,none⟩),.int .u32 id] w λe w'=>e=.returned (.tuple #[.int .u64 (((pg id).map (·.1)).getD 0:Nat),.bool (pg id).isSome])/\Fr NoF w w':=by
 have c1:w.cell? ⟨b,1,none⟩=some (.map (some mb)):=H.ce 1 (by omega);have lb:=H.lc.blk.lt;have lk:=H.look hid w (Fr.refl NoF w)
 cases hp:pg id with
 |none=>
  rw[hp]at lk;simp only[Option.map_none,Option.getD_none,Option.isSome_none]at lk;unfold fj at lk;clear H hp;go_enter func32,ntmps32;go_wp2;go_returns;exact⟨rfl,(Fr.refl NoF w).alloc _⟩
 |some p=>
  rw[hp]at lk;simp only[Option.map_some,Option.getD_some,Option.isSome_some]at lk;unfold ew at lk;clear H hp;go_enter func32,ntmps32;go_wp2;go_returns;exact⟨rfl,(Fr.refl NoF w).alloc _⟩
theorem bt(w:World)(u1 u2 u3:Value){t:TypeId}:Blk (w.alloc (.cells #[u1,u2,u3] t)) w.heap.size 3 (λi=>if i=0 then u1 else if i=1 then u2 else u3):=
 Blk.new _ _ _ _ _ _ rfl rfl (λi hi=>by
  match i,hi with
  |0,_=>rfl
  |1,_=>rfl
  |2,_=>rfl)
end
end
end Go.Proofs.YtkjhnllcphidpaaGreatDoor
