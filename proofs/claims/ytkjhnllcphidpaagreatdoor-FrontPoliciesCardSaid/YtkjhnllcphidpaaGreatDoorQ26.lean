/- Part 26. -/
import Derived.Test.YtkjhnllcphidpaaGreatDoorQ25
import Derived.Test.YtkjhnllcphidpaaGreatDoorQ04
namespace Go.Proofs.YtkjhnllcphidpaaGreatDoor
set_option linter.all false
set_option maxHeartbeats 16000000
set_option maxRecDepth 100000
section
open Go.Proofs.Tryz Go.RowKit
structure dq(w:World):Prop where
 cell:∀j,j<Lib.deBruijn64tab.length->w.cell? ⟨0,j,none⟩=some (.int .u8 (Lib.deBruijn64tab.getD j 0))
theorem dq.lt{w:World}(h:dq w):0<w.heap.size:=World.block_lt_of_cell? (w:=w) (a:=⟨0,0,none⟩) (h.cell 0 (by decide))
theorem dq.fr{w w':World}(h:dq w){F:Nat->Prop}(f:Fr F w w')(hF:¬F 0):dq w':=
 ⟨λj hj=>by rw[f.cell (p:=⟨0,j,none⟩) h.lt hF];exact h.cell j hj⟩
theorem dq.fr0{w w':World}(h:dq w)(f:Fr NoF w w'):dq w':=h.fr f id
theorem Dz(x k idx:Nat)(w:World)(hx0:((x:Int)==0)=false)
  (key:IntKind.u64.wrap (bits BinOp.and IntKind.u64 (x:Int) (IntKind.u64.wrap (-(x:Int)))*285870213051353865)/288230376151711744=(idx:Int))
  (hi:idx<64)(hk:k<64)(hcell:w.cell? ⟨0,idx,none⟩=some (.int .u8 k)):
  Calls prog 117 #[.int .u64 x] w λe w'=>e=.returned (.int .i64 k)/\w'=w:=by
 go_enter func117,ntmps117
 go_wp2_with(simp only[key])
 go_ret
 exact⟨rfl,rfl⟩
theorem Fw(x a:Nat)(hx:x<18446744073709551616)(hx0:x≠0)(hlow:x&&&(18446744073709551616-x)=a):
  IntKind.u64.wrap (bits BinOp.and IntKind.u64 (x:Int) (IntKind.u64.wrap (-(x:Int)))*285870213051353865)/288230376151711744=((a*285870213051353865%18446744073709551616/288230376151711744:Nat):Int):=by
 have e1:IntKind.u64.wrap (-(x:Int))=((18446744073709551616-x:Nat):Int):=by rw[IntKind.wrap_u64];omega
 rw[e1,bits_and_u64_nat x _ hx (by omega),hlow,IntKind.wrap_u64];omega
theorem BG{w:World}(hT:dq w){x:Nat}(hx:x<18446744073709551616)(hx0:x≠0):
  Calls prog 117 #[.int .u64 x] w λe w'=>e=.returned (.int .i64 (Lib.ctz 64 x))/\w'=w:=by
 obtain⟨hlow,hk⟩:=Lib.lowest_bit 64 x hx0 hx;obtain⟨hi,htab⟩:=Lib.deBruijn64_at _ hk;have hcell:=hT.cell _ hi;rw[htab]at hcell;exact Dz x _ _ w (by simp;omega) (Fw x _ hx hx0 hlow) hi hk hcell
def wC(S:Nat->Bool)(x:Nat):Value:=.int .u64 (wordOf S x:Nat)
def rV(h:Nat->Nat)(bound:Nat)(i:Nat):Value:=.slice (some ⟨h i,0,none⟩) (szs bound i) (szs bound i)
structure LR(w:World)(bound:Nat)(v:Value)(h:Nat->Nat)(L:Nat)(T:Nat->Nat->Bool):Prop where
 lo:1<=bound
 hi:bound<=65535
 row:SlF w 191 1 v L (rV h bound)
 lv:∀i,i<L->Blk w (h i) (szs bound i) (wC (T i))
 inj:∀i j,i<L->j<L->h i=h j->i=j
 apart:∀i,i<L->¬v.ownBlock=some (h i)
 one:1<=L
 top:szs bound (L-1)=1
 small:L<=4
structure LS(w:World)(bound:Nat)(S:Nat->Bool)(v:Value)(h:Nat->Nat)(L:Nat):Prop where
 r:LR w bound v h L (lev S)
 dom:∀x,S x=true->x<bound
def LF(v:Value)(h:Nat->Nat)(L:Nat):Nat->Prop:=λk=>v.ownBlock=some k\/∃i,i<L/\h i=k
section
variable{w w':World}{b off N bound L:Nat}{c:Nat->Value}{S:Nat->Bool}{v:Value}{h:Nat->Nat}{T:Nat->Nat->Bool}
theorem LR.fr(H:LR w bound v h L T){G:Nat->Prop}(f:Fr G w w')(hG:∀k,LF v h L k->¬G k):LR w' bound v h L T:=
 ⟨H.lo,H.hi,H.row.fr f (λb q=>hG b (.inl q)),λi hi=>(H.lv i hi).fr f (hG _ (.inr ⟨i,hi,rfl⟩)),H.inj,H.apart,H.one,H.top,H.small⟩
theorem LR.lt(H:LR w bound v h L T):∀k,LF v h L k->k<w.heap.size:=by
 rintro k(q|⟨i,hi,rfl⟩)
 .exact H.row.lt k q
 .exact(H.lv i hi).lt
theorem LR.congr(H:LR w bound v h L T){T':Nat->Nat->Bool}(e:∀i,i<L->T i=T' i):LR w bound v h L T':=
 ⟨H.lo,H.hi,H.row,λi hi=>by rw[<-e i hi];exact H.lv i hi,H.inj,H.apart,H.one,H.top,H.small⟩
structure Is(w:World)(g cap hb sz L k:Nat)(y W:Nat):Prop where
 gl:g<w.heap.size
 hl:hb<w.heap.size
 row:w.cell? ⟨g,k,none⟩=some (.slice (some ⟨hb,0,none⟩) sz sz)
 word:w.cell? ⟨hb,y,none⟩=some (.int .u64 W)
 fr:w.frozen? ⟨hb,y,none⟩=false
 sz:y<sz/\sz<=1024
theorem LR.shape(H:LR w bound v h L T):∃g cap,v=.slice (some ⟨g,0,none⟩) L cap/\L<=cap/\cap<=9223372036854775807:=by
 obtain⟨g,cap,e,g1,g2,_⟩:=H.row.at (by have:=H.one;omega);unfold maxLen at g2;exact⟨g,cap,e,g1,by omega⟩
theorem LR.at{g cap:Nat}(H:LR w bound (.slice (some ⟨g,0,none⟩) L cap) h L T){k y:Nat}(hk:k<L)(hy:y<szs bound k):Is w g cap (h k) (szs bound k) L k y (wordOf (T k) y):=by
 obtain⟨g',cap',e,g1,g2,g3,g4,g5⟩:=H.row.at (by omega);simp only[Value.slice.injEq,Option.some.injEq,Addr.mk.injEq]at e;obtain⟨⟨rfl,_⟩,_,rfl⟩:=e;exact⟨g3,(H.lv k hk).lt,g5 k (by omega),(H.lv k hk).cell hy,(H.lv k hk).frozen y,hy,pB H.hi k⟩
def zE(T:Nat->Nat->Bool)(k:Nat)(S:Nat->Bool):Nat->Nat->Bool:=λi=>if i=k then S else T i
theorem LR.set(H:LR w bound v h L T){k x:Nat}(hk:k<L)(vv:Bool):LR (w.setCell ⟨h k,x/64,none⟩ (.int .u64 (wordOf (ao (T k) x vv) (x/64):Nat))) bound v h L (zE T k (ao (T k) x vv)):=by
 have f:Fr (λi=>i=h k) w (w.setCell ⟨h k,x/64,none⟩ (.int .u64 (wordOf (ao (T k) x vv) (x/64):Nat))):=(Fr.refl (λi=>i=h k) w).setCell (p:=⟨h k,x/64,none⟩) (.inl rfl) _;refine⟨H.lo,H.hi,H.row.fr f (λb q e=>H.apart k hk (by rw[q,e])),λi hi=>?_,H.inj,H.apart,H.one,H.top,H.small⟩;by_cases e:i=k
 .subst e
  refine((H.lv i hi).set _ _).congr (λy hy=>?_);unfold zE;rw[if_pos rfl];by_cases e2:y=x/64
  .subst e2;rw[upd_same];rfl
  .rw[ab _ _ e2];unfold wC;rw[dC _ _ e2]
 .unfold zE
  rw[if_neg e];exact(H.lv i hi).fr f (λq=>e (H.inj _ _ hi hk q))
structure LC(w:World)(b off N:Nat)(c:Nat->Value)(bound:Nat)(S:Nat->Bool)(v:Value)(h:Nat->Nat)(L:Nat):Prop where
 blk:Blk w b N c
 inb:off+2<N
 c0:c off=.int .i64 bound
 c1:c (off+1)=.int .i64 (cntB S bound:Nat)
 c2:c (off+2)=v
 ls:LS w bound S v h L
 nb:¬LF v h L b
def gQ(S:Nat->Bool)(x:Int):Bool:=if x<0 then false else S x.toNat
theorem LC.cell0(H:LC w b off N c bound S v h L):w.cell? ⟨b,off,none⟩=some (.int .i64 bound):=by have:=H.blk.cell (i:=off) (by have:=H.inb;omega);rwa [H.c0]at this
theorem LC.cell1(H:LC w b off N c bound S v h L):w.cell? ⟨b,off+1,none⟩=some (.int .i64 (cntB S bound:Nat)):=by have:=H.blk.cell (i:=off+1) (by have:=H.inb;omega);rwa [H.c1]at this
theorem LC.cell2(H:LC w b off N c bound S v h L):w.cell? ⟨b,off+2,none⟩=some v:=by have:=H.blk.cell (i:=off+2) (by have:=H.inb;omega);rwa [H.c2]at this
theorem LC.out{x:Int}(H:LC w b off N c bound S v h L)(hx:(bound:Int)<=x):gQ S x=false:=by
 unfold gQ
 split
 .rfl
 .cases e:S x.toNat with
  |false=>rfl
  |true=>have:=H.ls.dom _ e;omega
theorem vi(H:LC w b off N c bound S v h L){x:Int}(hx:x<0\/(bound:Int)<=x):Calls prog 95 #[.pointer (some ⟨b,off,none⟩),.int .i64 x] w λe w'=>e=.returned (.bool false)/\w=w':=by
 have q0:=H.cell0;have lb:=H.blk.lt;clear H;by_cases hx0:x<0
 .have g0:decide (0<=x)=false:=by simp;omega
  go_enter func95,ntmps95;go_wp2;go_returns;exact⟨rfl,rfl⟩
 .have g0:decide (0<=x)=true:=by simp;omega
  have g1:decide (x<(bound:Int))=false:=by simp;omega
  go_enter func95,ntmps95;go_wp2;go_returns;exact⟨rfl,rfl⟩
theorem ui(H:LC w b off N c bound S v h L){x:Nat}(hx:x<bound):Calls prog 95 #[.pointer (some ⟨b,off,none⟩),.int .i64 x] w λe w'=>e=.returned (.bool (S x))/\w=w':=by
 have q0:=H.cell0;have q2:=H.cell2;have lb:=H.blk.lt;have hL:=H.ls.r.one;obtain⟨g,cap,rfl,g1,g2⟩:=H.ls.r.shape;obtain⟨r0,r1,r2,r3,_,r4,r5⟩:=H.ls.r.at (k:=0) (y:=x/64) (by omega) (vy hx 0);have hhi:=H.ls.r.hi;have HB:=xT S x;have hW:=df S (x/64);rw[show lev S 0=S from rfl]at r3;generalize szs bound 0=sz at*;generalize h 0=hb at*;have hk2:decide ((x:Int)<(bound:Int))=true:=by simpa using hx
 have key:(bits BinOp.and IntKind.u64 (((wordOf S (x/64):Nat):Int)/2^(x%64)) 1==1)=S x:=by
  have e1:((wordOf S (x/64):Nat):Int)/2^(x%64)=((wordOf S (x/64)/2^(x%64):Nat):Int):=by simp
  rw[e1,show(1:Int)=((1:Nat):Int)from rfl,u64_and_nat _ _ (by have:=Nat.div_le_self (wordOf S (x/64)) (2^(x%64));omega) (by omega),nat_mask1,HB]
  cases S x<;>simp
 generalize wordOf S (x/64)=W at*;clear H HB;go_enter func95,ntmps95;go_wp2;go_returns;exact⟨rfl,rfl⟩
theorem nW(H:LC w b off N c bound S v h L)(x:Int):Calls prog 95 #[.pointer (some ⟨b,off,none⟩),.int .i64 x] w λe w'=>e=.returned (.bool (gQ S x))/\w=w':=by
 by_cases h0:x<0
 .have e:gQ S x=false:=by unfold gQ;rw[if_pos h0]
  rw[e];exact vi H (.inl h0)
 .by_cases h1:(bound:Int)<=x
  .rw[H.out h1];exact vi H (.inr h1)
  .obtain⟨n,rfl⟩:=Int.eq_ofNat_of_zero_le (show 0<=x by omega)
   have e:gQ S n=S n:=by unfold gQ;rw[if_neg h0];rfl
   rw[e];exact ui H (by omega)
end
end
end Go.Proofs.YtkjhnllcphidpaaGreatDoor
