/- Part 28. -/
import Derived.Test.YtoenclhimbpfeaaGreatDoorW27
namespace Go.Proofs.YtoenclhimbpfeaaGreatDoor
set_option linter.all false
set_option maxHeartbeats 16000000
set_option maxRecDepth 100000
section
open Go.Proofs.Tryz Go.RowKit
structure dE(w:World):Prop where
 cell:∀j,j<Lib.deBruijn64tab.length->w.cell? ⟨0,j,none⟩=some (.int .u8 (Lib.deBruijn64tab.getD j 0))
theorem dE.lt{w:World}(h:dE w):0<w.heap.size:=World.block_lt_of_cell? (w:=w) (a:=⟨0,0,none⟩) (h.cell 0 (by decide))
theorem dE.fr{w w':World}(h:dE w){F:Nat->Prop}(f:Fr F w w')(hF:¬F 0):dE w':=
 ⟨λj hj=>by rw[f.cell (p:=⟨0,j,none⟩) h.lt hF];exact h.cell j hj⟩
theorem dE.fr0{w w':World}(h:dE w)(f:Fr NoF w w'):dE w':=h.fr f id
theorem CX(x k idx:Nat)(w:World)(hx0:((x:Int)==0)=false)
  (key:IntKind.u64.wrap (bits BinOp.and IntKind.u64 (x:Int) (IntKind.u64.wrap (-(x:Int)))*285870213051353865)/288230376151711744=(idx:Int))
  (hi:idx<64)(hk:k<64)(hcell:w.cell? ⟨0,idx,none⟩=some (.int .u8 k)):
  Calls prog 106 #[.int .u64 x] w λe w'=>e=.returned (.int .i64 k)/\w'=w:=by
 go_enter func106,ntmps106
 go_wp2_with(simp only[key])
 go_ret
 exact⟨rfl,rfl⟩
theorem EA(x a:Nat)(hx:x<18446744073709551616)(hx0:x≠0)(hlow:x&&&(18446744073709551616-x)=a):
  IntKind.u64.wrap (bits BinOp.and IntKind.u64 (x:Int) (IntKind.u64.wrap (-(x:Int)))*285870213051353865)/288230376151711744=((a*285870213051353865%18446744073709551616/288230376151711744:Nat):Int):=by
 have e1:IntKind.u64.wrap (-(x:Int))=((18446744073709551616-x:Nat):Int):=by rw[IntKind.wrap_u64];omega
 rw[e1,bits_and_u64_nat x _ hx (by omega),hlow,IntKind.wrap_u64];omega
theorem Bv{w:World}(hT:dE w){x:Nat}(hx:x<18446744073709551616)(hx0:x≠0):
  Calls prog 106 #[.int .u64 x] w λe w'=>e=.returned (.int .i64 (Lib.ctz 64 x))/\w'=w:=by
 obtain⟨hlow,hk⟩:=Lib.lowest_bit 64 x hx0 hx;obtain⟨hi,htab⟩:=Lib.deBruijn64_at _ hk;have hcell:=hT.cell _ hi;rw[htab]at hcell;exact CX x _ _ w (by simp;omega) (EA x _ hx hx0 hlow) hi hk hcell
def wC(S:Nat->Bool)(x:Nat):Value:=.int .u64 (wordOf S x:Nat)
def qq(h:Nat->Nat)(bound:Nat)(i:Nat):Value:=.slice (some ⟨h i,0,none⟩) (szs bound i) (szs bound i)
structure LR(w:World)(bound:Nat)(v:Value)(h:Nat->Nat)(L:Nat)(T:Nat->Nat->Bool):Prop where
 lo:1<=bound
 hi:bound<=65535
 row:SlF w 65 1 v L (qq h bound)
 lv:∀i,i<L->Blk w (h i) (szs bound i) (wC (T i))
 inj:∀i j,i<L->j<L->h i=h j->i=j
 apart:∀i,i<L->¬v.ownBlock=some (h i)
 one:1<=L
 top:szs bound (L-1)=1
 small:L<=4
structure LS(w:World)(bound:Nat)(S:Nat->Bool)(v:Value)(h:Nat->Nat)(L:Nat):Prop where
 r:LR w bound v h L (lev S)
 dom:∀x,S x=true->x<bound
def LF(v:Value)(h:Nat->Nat)(L:Nat):Nat->Prop:=λk=>v.ownBlock=some k\/∃i,i<L/\h i=k
section
variable{w w':World}{b off N bound L:Nat}{c:Nat->Value}{S:Nat->Bool}{v:Value}{h:Nat->Nat}{T:Nat->Nat->Bool}
theorem LR.fr(H:LR w bound v h L T){G:Nat->Prop}(f:Fr G w w')(hG:∀k,LF v h L k->¬G k):LR w' bound v h L T:=
 ⟨H.lo,H.hi,H.row.fr f (λb q=>hG b (.inl q)),λi hi=>(H.lv i hi).fr f (hG _ (.inr ⟨i,hi,rfl⟩)),H.inj,H.apart,H.one,H.top,H.small⟩
theorem LR.lt(H:LR w bound v h L T):∀k,LF v h L k->k<w.heap.size:=by
 rintro k(q|⟨i,hi,rfl⟩)
 .exact H.row.lt k q
 .exact(H.lv i hi).lt
theorem LR.congr(H:LR w bound v h L T){T':Nat->Nat->Bool}(e:∀i,i<L->T i=T' i):LR w bound v h L T':=
 ⟨H.lo,H.hi,H.row,λi hi=>by rw[<-e i hi];exact H.lv i hi,H.inj,H.apart,H.one,H.top,H.small⟩
structure GP(w:World)(g cap hb sz L k:Nat)(y W:Nat):Prop where
 gl:g<w.heap.size
 hl:hb<w.heap.size
 row:w.cell? ⟨g,k,none⟩=some (.slice (some ⟨hb,0,none⟩) sz sz)
 word:w.cell? ⟨hb,y,none⟩=some (.int .u64 W)
 fr:w.frozen? ⟨hb,y,none⟩=false
 sz:y<sz/\sz<=1024
theorem LR.shape(H:LR w bound v h L T):∃g cap,v=.slice (some ⟨g,0,none⟩) L cap/\L<=cap/\cap<=9223372036854775807:=by
 obtain⟨g,cap,e,g1,g2,_⟩:=H.row.at (by have:=H.one;omega);unfold maxLen at g2;exact⟨g,cap,e,g1,by omega⟩
theorem LR.at{g cap:Nat}(H:LR w bound (.slice (some ⟨g,0,none⟩) L cap) h L T){k y:Nat}(hk:k<L)(hy:y<szs bound k):GP w g cap (h k) (szs bound k) L k y (wordOf (T k) y):=by
 obtain⟨g',cap',e,g1,g2,g3,g4,g5⟩:=H.row.at (by omega);simp only[Value.slice.injEq,Option.some.injEq,Addr.mk.injEq]at e;obtain⟨⟨rfl,_⟩,_,rfl⟩:=e;exact⟨g3,(H.lv k hk).lt,g5 k (by omega),(H.lv k hk).cell hy,(H.lv k hk).frozen y,hy,oj H.hi k⟩
def zM(T:Nat->Nat->Bool)(k:Nat)(S:Nat->Bool):Nat->Nat->Bool:=λi=>if i=k then S else T i
theorem LR.set(H:LR w bound v h L T){k x:Nat}(hk:k<L)(vv:Bool):LR (w.setCell ⟨h k,x/64,none⟩ (.int .u64 (wordOf (ap (T k) x vv) (x/64):Nat))) bound v h L (zM T k (ap (T k) x vv)):=by
 have f:Fr (λi=>i=h k) w (w.setCell ⟨h k,x/64,none⟩ (.int .u64 (wordOf (ap (T k) x vv) (x/64):Nat))):=(Fr.refl (λi=>i=h k) w).setCell (p:=⟨h k,x/64,none⟩) (.inl rfl) _;refine⟨H.lo,H.hi,H.row.fr f (λb q e=>H.apart k hk (by rw[q,e])),λi hi=>?_,H.inj,H.apart,H.one,H.top,H.small⟩;by_cases e:i=k
 .subst e
  refine((H.lv i hi).set _ _).congr (λy hy=>?_);unfold zM;rw[if_pos rfl];by_cases e2:y=x/64
  .subst e2;rw[upd_same];rfl
  .rw[aa _ _ e2];unfold wC;rw[dq _ _ e2]
 .unfold zM
  rw[if_neg e];exact(H.lv i hi).fr f (λq=>e (H.inj _ _ hi hk q))
structure LC(w:World)(b off N:Nat)(c:Nat->Value)(bound:Nat)(S:Nat->Bool)(v:Value)(h:Nat->Nat)(L:Nat):Prop where
 blk:Blk w b N c
 inb:off+2<N
 c0:c off=.int .i64 bound
 c1:c (off+1)=.int .i64 (cntB S bound:Nat)
 c2:c (off+2)=v
 ls:LS w bound S v h L
 nb:¬LF v h L b
def gL(S:Nat->Bool)(x:Int):Bool:=if x<0 then false else S x.toNat
theorem LC.cell0(H:LC w b off N c bound S v h L):w.cell? ⟨b,off,none⟩=some (.int .i64 bound):=by have:=H.blk.cell (i:=off) (by have:=H.inb;omega);rwa [H.c0]at this
theorem LC.cell1(H:LC w b off N c bound S v h L):w.cell? ⟨b,off+1,none⟩=some (.int .i64 (cntB S bound:Nat)):=by have:=H.blk.cell (i:=off+1) (by have:=H.inb;omega);rwa [H.c1]at this
theorem LC.cell2(H:LC w b off N c bound S v h L):w.cell? ⟨b,off+2,none⟩=some v:=by have:=H.blk.cell (i:=off+2) (by have:=H.inb;omega);rwa [H.c2]at this
theorem LC.out{x:Int}(H:LC w b off N c bound S v h L)(hx:(bound:Int)<=x):gL S x=false:=by
 unfold gL
 split
 .rfl
 .cases e:S x.toNat with
  |false=>rfl
  |true=>have:=H.ls.dom _ e;omega
theorem uj(H:LC w b off N c bound S v h L){x:Int}(hx:x<0\/(bound:Int)<=x):Calls prog 78 #[.pointer (some ⟨b,off,none⟩),.int .i64 x] w λe w'=>e=.returned (.bool false)/\w=w':=by
 have q0:=H.cell0;have lb:=H.blk.lt;clear H;by_cases hx0:x<0
 .have g0:decide (0<=x)=false:=by simp;omega
  go_enter func78,ntmps78;go_wp2;go_returns;exact⟨rfl,rfl⟩
 .have g0:decide (0<=x)=true:=by simp;omega
  have g1:decide (x<(bound:Int))=false:=by simp;omega
  go_enter func78,ntmps78;go_wp2;go_returns;exact⟨rfl,rfl⟩
theorem sO(H:LC w b off N c bound S v h L){x:Nat}(hx:x<bound):Calls prog 78 #[.pointer (some ⟨b,off,none⟩),.int .i64 x] w λe w'=>e=.returned (.bool (S x))/\w=w':=by
 have q0:=H.cell0;have q2:=H.cell2;have lb:=H.blk.lt;have hL:=H.ls.r.one;obtain⟨g,cap,rfl,g1,g2⟩:=H.ls.r.shape;obtain⟨r0,r1,r2,r3,_,r4,r5⟩:=H.ls.r.at (k:=0) (y:=x/64) (by omega) (uO hx 0);have hhi:=H.ls.r.hi;have HB:=xF S x;have hW:=cY S (x/64);rw[show lev S 0=S from rfl]at r3;generalize szs bound 0=sz at*;generalize h 0=hb at*;have hk2:decide ((x:Int)<(bound:Int))=true:=by simpa using hx
 have key:(bits BinOp.and IntKind.u64 (((wordOf S (x/64):Nat):Int)/2^(x%64)) 1==1)=S x:=by
  have e1:((wordOf S (x/64):Nat):Int)/2^(x%64)=((wordOf S (x/64)/2^(x%64):Nat):Int):=by simp
  rw[e1,show(1:Int)=((1:Nat):Int)from rfl,u64_and_nat _ _ (by have:=Nat.div_le_self (wordOf S (x/64)) (2^(x%64));omega) (by omega),nat_mask1,HB]
  cases S x<;>simp
 generalize wordOf S (x/64)=W at*;clear H HB;go_enter func78,ntmps78;go_wp2;go_returns;exact⟨rfl,rfl⟩
theorem nh(H:LC w b off N c bound S v h L)(x:Int):Calls prog 78 #[.pointer (some ⟨b,off,none⟩),.int .i64 x] w λe w'=>e=.returned (.bool (gL S x))/\w=w':=by
 by_cases h0:x<0
 .have e:gL S x=false:=by unfold gL;rw[if_pos h0]
  rw[e];exact uj H (.inl h0)
 .by_cases h1:(bound:Int)<=x
  .rw[H.out h1];exact uj H (.inr h1)
  .obtain⟨n,rfl⟩:=Int.eq_ofNat_of_zero_le (show 0<=x by omega)
   have e:gL S n=S n:=by unfold gL;rw[if_neg h0];rfl
   rw[e];exact sO H (by omega)
end
def iR(S S':Nat->Bool)(k:Nat):Nat->Nat->Bool:=λi=>if i<k then lev S' i else lev S i
theorem zu(S S':Nat->Bool):iR S S' 0=lev S:=by funext i;unfold iR;rw[if_neg (by omega)]
theorem jZ(S S':Nat->Bool)(k:Nat):iR S S' k k=lev S k:=by unfold iR;rw[if_neg (by omega)]
theorem mE(S S':Nat->Bool)(k:Nat):zM (iR S S' k) k (lev S' k)=iR S S' (k+1):=by
 funext i
 unfold zM iR;by_cases e:i=k
 .subst e;rw[if_pos rfl,if_pos (by omega)]
 .rw[if_neg e]
  by_cases q:i<k
  .rw[if_pos q,if_pos (by omega)]
  .rw[if_neg q,if_neg (by omega)]
theorem rc(y:Nat):IntKind.u64.wrap (2^(y%64))=((2^(y%64):Nat):Int):=by
 have hp:2^(y%64)<2^64:=Nat.pow_lt_pow_right (by omega) (Nat.mod_lt _ (by omega));rw[IntKind.wrap_u64];have:((2:Int)^(y%64))=((2^(y%64):Nat):Int):=by simp
 rw[this];clear this;generalize 2^(y%64)=p at*;have hp':p<18446744073709551616:=hp;omega
theorem Dh{W:Nat}(hW:W<18446744073709551616)(y:Nat):bits BinOp.or IntKind.u64 (W:Int) (IntKind.u64.wrap (2^(y%64)))=((W|||2^(y%64):Nat):Int):=by
 have hp:2^(y%64)<2^64:=Nat.pow_lt_pow_right (by omega) (Nat.mod_lt _ (by omega));rw[rc,u64_or_nat _ _ hW (by omega)]
theorem pQ{W:Nat}(hW:W<18446744073709551616)(y:Nat):bits BinOp.andNot IntKind.u64 (W:Int) (IntKind.u64.wrap (2^(y%64)))=((W&&&(18446744073709551615-2^(y%64)):Nat):Int):=by
 have hp:2^(y%64)<2^64:=Nat.pow_lt_pow_right (by omega) (Nat.mod_lt _ (by omega));rw[rc,u64_andNot_nat _ _ hW (by omega)]
section
variable{w w':World}{b off N bound L:Nat}{c:Nat->Value}{S:Nat->Bool}{v:Value}{h:Nat->Nat}{T:Nat->Nat->Bool}
def SF(b:Nat)(v:Value)(h:Nat->Nat)(L:Nat):Nat->Prop:=λk=>k=b\/LF v h L k
theorem C7(H:LC w b off N c bound S v h L){x:Nat}(hx:x<bound):∀y,ap S x true y=true->y<bound:=by
 intro y hy;by_cases e:y=x
 .omega
 .rw[aA _ _ e]at hy;exact H.ls.dom y hy
theorem Ar(H:LC w b off N c bound S v h L)(x:Nat):∀y,ap S x false y=true->y<bound:=by
 intro y hy;by_cases e:y=x
 .subst e;rw[aM]at hy;cases hy
 .rw[aA _ _ e]at hy;exact H.ls.dom y hy
theorem sg(H:LC w b off N c bound S v h L){x:Nat}(hx:x<bound)(hS:S x=false):Calls prog 59 #[.pointer (some ⟨b,off,none⟩),.int .i64 x] w λe w'=>e=.returned (.tuple #[])/\LC w' b off N (upd c (off+1) (.int .i64 ((cntB S bound:Nat)+1:Int))) bound (ap S x true) v h L/\Fr (SF b v h L) w w':=by
 have hHas:=Hd (sO H hx);rw[hS]at hHas;have q0:=H.cell0;have q1:=H.cell1;have q2:=H.cell2;have lb:=H.blk.lt;have fb:=H.blk.frozen (off+1);have hL:=H.ls.r.one;have hL4:=H.ls.r.small;have hhi:=H.ls.r.hi;have hcnt:=oN S bound;have HD:=Hd (C7 H hx);have HNB:=Hd H.nb;have HC:=Hd (And.intro H.c0 H.c2);have hinb:=H.inb;have HCN:=Hd (iP S hS bound hx);have HDV:=Hd (λk=>uO hx k);have f1:Fr (λk=>k=b) w (w.setCell ⟨b,off+1,none⟩ (.int .i64 ((cntB S bound:Nat)+1:Int))):=(Fr.refl (λk=>k=b) w).setCell (p:=⟨b,off+1,none⟩) (.inl rfl) _;have HR0:=Hd (H.ls.r.fr f1 (λk hk e=>H.nb (e▸hk)));have HB0:=Hd (H.blk.set (off+1) (.int .i64 ((cntB S bound:Nat)+1:Int)));have HF0:=Hd f1;obtain⟨g,cap,rfl,g1,g2⟩:=H.ls.r.shape;have hx0:decide ((x:Int)<0)=false:=by simp
 have hx1:decide ((bound:Int)<=(x:Int))=false:=by simpa using hx
 have hwc:IntKind.i64.wrap ((cntB S bound:Nat)+1:Int)=((cntB S bound+1:Nat):Int):=IntWalk.i64_in _ (by omega);generalize cntB S bound=cn at*;clear H hS f1;go_enter func59,ntmps59
 go_wp2_with fail
 refine hHas.out.mono ?_;rintro e w0⟨rfl,rfl⟩;clear hHas;go_wp2
 go_loopw [1,33] (λxv iv wr=>∃k:Nat,k<=L/\iv=.int .i64 k/\xv=.int .i64 (dv x k:Nat)/\Hid (LR wr bound (.slice (some ⟨g,0,none⟩) L cap) h L (iR S (ap S x true) k))/\Hid (Blk wr b N (upd c (off+1) (.int .i64 ((cn:Nat)+1:Int))))/\Hid (Fr (SF b (.slice (some ⟨g,0,none⟩) L cap) h L) w wr)) (λ_ iv _=>L-(intOf iv).toNat)
 case atStart=>exact⟨0,Nat.zero_le _,rfl,rfl,by rw[zu];exact HR0.out,HB0.out,HF0.out.mono (λi q=>.inl q)⟩
 case round=>
  obtain⟨k,hk,rfl,rfl,HR,HB,HF⟩:=hrel;by_cases hlt:k<L
  .obtain⟨r0,r1,r2,r3,r6,r4,r5⟩:=HR.out.at hlt (HDV.out k)
   rw[jZ]at r3
   have HST:Hid (LR (wr.setCell ⟨h k,dv x k/64,none⟩ (.int .u64 ((wordOf (lev S k) (dv x k/64)|||2^(dv x k%64):Nat):Int))) bound (.slice (some ⟨g,0,none⟩) L cap) h L (iR S (ap S x true) (k+1))):=by
    have:=HR.out.set hlt (x:=dv x k) true;rw[jZ,sj,<-uI,mE]at this;exact this
   have fst:Fr (SF b (.slice (some ⟨g,0,none⟩) L cap) h L) w (wr.setCell ⟨h k,dv x k/64,none⟩ (.int .u64 ((wordOf (lev S k) (dv x k/64)|||2^(dv x k%64):Nat):Int))):=HF.out.setCell (p:=⟨h k,dv x k/64,none⟩) (.inl (.inr (.inr ⟨k,hlt,rfl⟩))) _;have HFS:=Hd fst;have HBS:Hid (Blk (wr.setCell ⟨h k,dv x k/64,none⟩ (.int .u64 ((wordOf (lev S k) (dv x k/64)|||2^(dv x k%64):Nat):Int))) b N (upd c (off+1) (.int .i64 ((cn:Nat)+1:Int)))):=HB.out.other (λe=>HNB.out (.inr ⟨k,hlt,e.symm⟩)) _;have hW:=cY (lev S k) (dv x k/64);clear HR HB HF fst;generalize wordOf (lev S k) (dv x k/64)=W at*;generalize h k=hb at*;have HY:Hid (dv x (k+1)=dv x k/64):=rfl;have hyb:dv x k<=65535:=by have:=yN x k;omega
   generalize dv x k=y at*;have hw1:IntKind.i64.wrap ((y:Int)/64)=(y:Int)/64:=IntWalk.i64_in _ (by omega);have hi0:0<=(y:Int)/64:=by omega
   have hi1:(y:Int)/64<(szs bound k:Nat):=by omega
   have hi2:((y:Int)/64).toNat=y/64:=by omega
   have key:bits BinOp.or IntKind.u64 (W:Int) (IntKind.u64.wrap (2^(y%64)))=((W|||2^(y%64):Nat):Int):=Dh hW y;go_wp2
   go_region
   go_wp2
   go_roundw
   case rel=>exact⟨k+1,by omega,by go_num,by rw[HY.out];go_num,HST.out.fr ((Fr.refl NoF _).drew) (λ_ _ q=>q),HBS.out.drew,HFS.out.drew⟩
   case measure=>simp[intOf];omega
  .obtain rfl:k=L:=by omega
   clear hlt;go_wp2;go_returns;exact⟨rfl,⟨HB.out,hinb,by rw[aa _ _ (by omega)];exact HC.out.1,by rw[upd_same,HCN.out];rfl,by rw[aa _ _ (by omega)];exact HC.out.2,⟨HR.out.congr (λi hi=>by unfold iR;rw[if_pos hi]),HD.out⟩,HNB.out⟩,HF.out⟩
theorem vN(H:LC w b off N c bound S v h L){x:Int}(hS:gL S x=false):Calls prog 88 #[.pointer (some ⟨b,off,none⟩),.int .i64 x] w λe w'=>e=.returned (.tuple #[])/\w=w':=by
 have hHas:=Hd (nh H x);rw[hS]at hHas;clear H hS;go_enter func88,ntmps88
 go_wp2_with fail
 refine hHas.out.mono ?_;rintro e w0⟨rfl,rfl⟩;go_wp2;go_returns;exact⟨rfl,rfl⟩
theorem BC{S S':Nat->Bool}{k:Nat}(e:lev S' k=lev S k):∀i,k<=i->lev S' i=lev S i:=by
 intro i hi
 induction i with
 |zero=>obtain rfl:k=0:=by omega
        exact e
 |succ i ih=>
  by_cases q:k=i+1
  .subst q;exact e
  .show up (lev S' i)=up (lev S i)
   rw[ih (by omega)]
theorem vG(H:LC w b off N c bound S v h L){x:Nat}(hS:S x=true):Calls prog 88 #[.pointer (some ⟨b,off,none⟩),.int .i64 x] w λe w'=>e=.returned (.tuple #[])/\LC w' b off N (upd c (off+1) (.int .i64 ((cntB S bound:Nat)-1:Int))) bound (ap S x false) v h L/\Fr (SF b v h L) w w':=by
 have hx:x<bound:=H.ls.dom x hS;have hHas:=Hd (sO H hx);rw[hS]at hHas;have q1:=H.cell1;have q2:=H.cell2;have lb:=H.blk.lt;have fb:=H.blk.frozen (off+1);have hL:=H.ls.r.one;have hL4:=H.ls.r.small;have hhi:=H.ls.r.hi;have hcnt:=oN S bound;have HD:=Hd (Ar H x);have HNB:=Hd H.nb;have HC:=Hd (And.intro H.c0 H.c2);have hinb:=H.inb;have hcn:=gu S hS bound hx;have HCN:=Hd hcn;have HDV:=Hd (λk=>uO hx k);have f1:Fr (λk=>k=b) w (w.setCell ⟨b,off+1,none⟩ (.int .i64 ((cntB S bound:Nat)-1:Int))):=(Fr.refl (λk=>k=b) w).setCell (p:=⟨b,off+1,none⟩) (.inl rfl) _;have HR0:=Hd (H.ls.r.fr f1 (λk hk e=>H.nb (e▸hk)));have HB0:=Hd (H.blk.set (off+1) (.int .i64 ((cntB S bound:Nat)-1:Int)));have HF0:=Hd f1;obtain⟨g,cap,rfl,g1,g2⟩:=H.ls.r.shape;have hc1:1<=cntB S bound:=by omega
 clear hcn;generalize cntB S bound=cn at*;have hwc:IntKind.i64.wrap ((cn:Int)-1)=(cn:Int)-1:=IntWalk.i64_in _ (by omega);clear H hS f1;go_enter func88,ntmps88
 go_wp2_with fail
 refine hHas.out.mono ?_;rintro e w0⟨rfl,rfl⟩;clear hHas;go_wp2
 go_loopw [1,22] (λxv iv wr=>∃k:Nat,k<=L/\iv=.int .i64 k/\xv=.int .i64 (dv x k:Nat)/\Hid (lev (ap S x false) k=ap (lev S k) (dv x k) false)/\Hid (LR wr bound (.slice (some ⟨g,0,none⟩) L cap) h L (iR S (ap S x false) k))/\Hid (Blk wr b N (upd c (off+1) (.int .i64 ((cn:Nat)-1:Int))))/\Hid (Fr (SF b (.slice (some ⟨g,0,none⟩) L cap) h L) w wr)) (λ_ iv _=>L-(intOf iv).toNat)
 case atStart=>exact⟨0,Nat.zero_le _,rfl,rfl,rfl,by rw[zu];exact HR0.out,HB0.out,HF0.out.mono (λi q=>.inl q)⟩
 case round=>
  obtain⟨k,hk,rfl,rfl,HLV,HR,HB,HF⟩:=hrel;by_cases hlt:k<L
  .obtain⟨r0,r1,r2,r3,r6,r4,r5⟩:=HR.out.at hlt (HDV.out k)
   rw[jZ]at r3
   have HST:Hid (LR (wr.setCell ⟨h k,dv x k/64,none⟩ (.int .u64 ((wordOf (ap (lev S k) (dv x k) false) (dv x k/64):Nat):Int))) bound (.slice (some ⟨g,0,none⟩) L cap) h L (iR S (ap S x false) (k+1))):=by
    have:=HR.out.set hlt (x:=dv x k) false;rw[jZ,<-HLV.out,mE,HLV.out]at this;exact this
   have fst:Fr (SF b (.slice (some ⟨g,0,none⟩) L cap) h L) w (wr.setCell ⟨h k,dv x k/64,none⟩ (.int .u64 ((wordOf (ap (lev S k) (dv x k) false) (dv x k/64):Nat):Int))):=HF.out.setCell (p:=⟨h k,dv x k/64,none⟩) (.inl (.inr (.inr ⟨k,hlt,rfl⟩))) _;have HFS:=Hd fst;have HBS:Hid (Blk (wr.setCell ⟨h k,dv x k/64,none⟩ (.int .u64 ((wordOf (ap (lev S k) (dv x k) false) (dv x k/64):Nat):Int))) b N (upd c (off+1) (.int .i64 ((cn:Nat)-1:Int)))):=HB.out.other (λe=>HNB.out (.inr ⟨k,hlt,e.symm⟩)) _;have hW:=cY (lev S k) (dv x k/64);have key:=pQ hW (dv x k);rw[<-pu]at key;have HU0:Hid (wordOf (ap (lev S k) (dv x k) false) (dv x k/64)=0->lev (ap S x false) (k+1)=ap (lev S (k+1)) (dv x (k+1)) false):=λq=>by show up (lev (ap S x false) k)=_;rw[HLV.out,Ao _ _ q];rfl
   have HU1:Hid (¬wordOf (ap (lev S k) (dv x k) false) (dv x k/64)=0->∀i,k+1<=i->lev (ap S x false) i=lev S i):=λq=>BC (by show up (lev (ap S x false) k)=up (lev S k);rw[HLV.out,BH _ _ q])
   clear HR HB HF fst HLV;have HY:Hid (dv x (k+1)=dv x k/64):=rfl;have hyb:dv x k<=65535:=by have:=yN x k;omega
   generalize wordOf (ap (lev S k) (dv x k) false) (dv x k/64)=W2 at*;generalize wordOf (lev S k) (dv x k/64)=W at*;have HHB:Hid (h k=h k):=rfl;generalize h k=hb at*;generalize dv x k=y at*;have hw1:IntKind.i64.wrap ((y:Int)/64)=(y:Int)/64:=IntWalk.i64_in _ (by omega);have hi0:0<=(y:Int)/64:=by omega
   have hi1:(y:Int)/64<(szs bound k:Nat):=by omega
   have hi2:((y:Int)/64).toNat=y/64:=by omega
   go_wp2
   go_region
   by_cases h0:W2=0
   .have HH0:=Hd (HU0.out h0)
    have hz:((W2:Int) !=0)=false:=by simp[h0]
    clear h0 HU0 HU1;go_wp2
    go_roundw
    case rel=>exact⟨k+1,by omega,by go_num,by rw[HY.out];go_num,HH0.out,HST.out.fr ((Fr.refl NoF _).drew) (λ_ _ q=>q),HBS.out.drew,HFS.out.drew⟩
    case measure=>simp[intOf];omega
   .have HH1:=Hd (HU1.out h0)
    have hz:((W2:Int) !=0)=true:=by simp[h0]
    clear h0 HU0 HU1;go_wp2;go_returns
    exact⟨rfl,⟨HBS.out.drew,hinb,by rw[aa _ _ (by omega)];exact HC.out.1,by rw[upd_same];have:=HCN.out;congr 1;omega,by rw[aa _ _ (by omega)];exact HC.out.2,⟨(HST.out.fr ((Fr.refl NoF _).drew) (λ_ _ q=>q)).congr (λi hi=>by
     unfold iR;by_cases q:i<k+1
     .rw[if_pos q]
     .rw[if_neg q];exact(HH1.out i (by omega)).symm),HD.out⟩,HNB.out⟩,HFS.out.drew⟩
  .obtain rfl:k=L:=by omega
   clear hlt;go_wp2;go_returns;exact⟨rfl,⟨HB.out,hinb,by rw[aa _ _ (by omega)];exact HC.out.1,by rw[upd_same];have:=HCN.out;congr 1;omega,by rw[aa _ _ (by omega)];exact HC.out.2,⟨HR.out.congr (λi hi=>by unfold iR;rw[if_pos hi]),HD.out⟩,HNB.out⟩,HF.out⟩
end
section
variable{w w':World}{b off N bound L:Nat}{c:Nat->Value}{S:Nat->Bool}{v:Value}{h:Nat->Nat}{T:Nat->Nat->Bool}
theorem mJ(H:LC w b off N c bound S v h L):Calls prog 79 #[.pointer (some ⟨b,off,none⟩)] w λe w'=>e=.returned (.int .i64 (cntB S bound:Nat))/\w=w':=by
 have q1:=H.cell1;have lb:=H.blk.lt;clear H;go_enter func79,ntmps79;go_wp2;go_returns;exact⟨rfl,rfl⟩
theorem sC(H:LC w b off N c bound S v h L)(h0:cntB S bound=0):Calls prog 82 #[.pointer (some ⟨b,off,none⟩)] w λe w'=>e=.returned (.int .i64 (-1))/\w=w':=by
 have q1:=H.cell1;rw[h0]at q1;have lb:=H.blk.lt;clear H h0;go_enter func82,ntmps82;go_wp2;go_returns;exact⟨rfl,rfl⟩
theorem Ca(H:LC w b off N c bound S v h L){x:Nat}(hx:S x=true):aT (lev S L) 0:=by
 refine⟨?_,λy hy=>by omega⟩;have h1:=qO hx L;obtain⟨l,rfl⟩:∃l,L=l+1:=⟨L-1,by have:=H.ls.r.one;omega⟩;have h2:=oV H.ls.dom l _ h1;have h3:=H.ls.r.top;rw[show l+1-1=l from rfl]at h3;have:dv x (l+1)=0:=by omega
 rw[this]at h1;exact h1
theorem tN(hT:dE w)(H:LC w b off N c bound S v h L){x:Nat}(hx:aT S x):Calls prog 82 #[.pointer (some ⟨b,off,none⟩)] w λe w'=>e=.returned (.int .i64 x)/\w=w':=by
 have HTOP:=Hd (Ca H hx.1);have HX:=Hd hx;have q1:=H.cell1;have q2:=H.cell2;have lb:=H.blk.lt;have hL:=H.ls.r.one;have hL4:=H.ls.r.small;have hhi:=H.ls.r.hi;have hcz:¬cntB S bound=0:=λq=>by have:=gy q x (H.ls.dom x hx.1);rw[hx.1]at this;cases this
 have HR:=Hd H.ls.r;have HDM:=Hd (oV H.ls.dom);have HT:=Hd hT;obtain⟨g,cap,rfl,g1,g2⟩:=H.ls.r.shape;generalize cntB S bound=cn at*;have hcq:((cn:Int)==0)=false:=by simp;omega
 have hlw:IntKind.i64.wrap ((L:Int)-1)=(L:Int)-1:=IntWalk.i64_in _ (by omega);clear H hx hT hcz;go_enter func82,ntmps82;go_wp2
 go_loopw [3,4] (λxv iv wr=>∃k y:Nat,k<=L/\iv=.int .i64 ((k:Int)-1)/\xv=.int .i64 (y:Nat)/\Hid (aT (lev S k) y)/\w=wr) (λ_ iv _=>(intOf iv+1).toNat)
 case atStart=>exact⟨L,0,Nat.le_refl _,rfl,rfl,HTOP.out,rfl⟩
 case round=>
  obtain⟨k,y,hk,rfl,rfl,HY,rfl⟩:=hrel
  cases k with
  |zero=>
   have e:y=x:=HY.out.unique HX.out;subst e;go_wp2;go_returns;exact⟨rfl,rfl⟩
  |succ k=>
   have hys:y<szs bound k:=HDM.out k y HY.out.1;obtain⟨d1,d2⟩:=aT.down HY.out;have HY2:=Hd d2;obtain⟨r0,r1,r2,r3,r6,r4,r5⟩:=HR.out.at (k:=k) (by omega) hys;have HTZ:=Hd (Bv HT.out (cY (lev S k) y) d1);obtain⟨z1,_,_⟩:=ni d1 (cY (lev S k) y);clear d1 d2 HY;generalize Lib.ctz 64 (wordOf (lev S k) y)=z at*;generalize wordOf (lev S k) y=W at*;generalize h k=hb at*;have hkk:((k+1:Nat):Int)-1=(k:Int):=by omega
   rw[hkk];have hwm:IntKind.i64.wrap ((y:Int)*64)=(y:Int)*64:=IntWalk.i64_in _ (by omega);have hwa:IntKind.i64.wrap ((y:Int)*64+(z:Int))=(y:Int)*64+(z:Int):=IntWalk.i64_in _ (by omega)
   go_wp2_with fail
   refine HTZ.out.mono ?_;rintro e w'⟨rfl,rfl⟩;go_wp2
   go_roundw
   case rel=>exact⟨k,y*64+z,by omega,by go_num,by go_num,HY2.out,by first|rfl|trivial⟩
   case measure=>simp[intOf]<;>omega
theorem jM(hT:dE w)(H:LC w b off N c bound S v h L):Calls prog 82 #[.pointer (some ⟨b,off,none⟩)] w λe w'=>w=w'/\((cntB S bound=0/\(∀x,S x=false)/\e=.returned (.int .i64 (-1)))\/∃x,x<bound/\aT S x/\e=.returned (.int .i64 (x:Nat))):=by
 by_cases h0:cntB S bound=0
 .refine(sC H h0).mono ?_
  rintro e w'⟨rfl,rfl⟩
  exact⟨rfl,.inl ⟨h0,λx=>by
   by_cases hx:x<bound
   .exact gy h0 x hx
   .cases e:S x with
    |false=>rfl
    |true=>exact absurd (H.ls.dom x e) hx,rfl⟩⟩
 .obtain⟨x,hx,hl⟩:=qh (nN h0)
  refine(tN hT H hl).mono ?_;rintro e w'⟨rfl,rfl⟩;exact⟨rfl,.inr ⟨x,hx,hl,rfl⟩⟩
end
theorem EIw:EI prog 112 65 1 24:=EI.mk' (z:=.slice none 0 0) underlying112 (by kernel_rfl) rfl (by decide)
def aU:Nat->Bool:=λ_=>false
theorem ec(base:Nat):∀n,cr aU base n=0
 |0=>rfl
 |n+1=>by unfold cr;rw[ec base n];simp[aU]
theorem pA:∀i,lev aU i=aU
 |0=>rfl
 |i+1=>by
  show up (lev aU i)=aU
  rw[pA i]
  funext x
  unfold up wordOf;rw[ec];simp[aU]
def wd(bound:Nat):Nat->Nat
 |0=>bound
 |k+1=>szs bound k
theorem Cc(bound k:Nat):szs bound k=(wd bound k+63)/64:=by cases k<;>rfl
theorem Gc{bound:Nat}(hb:bound<=65535){k:Nat}(h:k=0\/2<=wd bound k):k<=2:=by
 rcases h with rfl|h
 .omega
 .match k,h with
  |0,_=>omega
  |1,_=>omega
  |2,_=>omega
  |k+3,h=>
   exfalso
   have:∀k,szs bound (k+2)<=1:=by
    intro k
    induction k with
    |zero=>exact Cu hb
    |succ k ih=>show(szs bound (k+2)+63)/64<=1;omega
   have:=this k;have h':2<=szs bound (k+2):=h;omega
structure LE(w:World)(bound:Nat)(v:Value)(h:Nat->Nat)(k base:Nat):Prop where
 row:SlF w 65 1 v k (qq h bound)
 lv:∀i,i<k->Blk w (h i) (szs bound i) (wC aU)
 inj:∀i j,i<k->j<k->h i=h j->i=j
 apart:∀i,i<k->¬v.ownBlock=some (h i)
 new:∀i,LF v h k i->base<=i
section
variable{w w':World}{bound k base:Nat}{v:Value}{h:Nat->Nat}
theorem LE.fr(H:LE w bound v h k base){G:Nat->Prop}(f:Fr G w w')(hG:∀i,LF v h k i->¬G i):LE w' bound v h k base:=
 ⟨H.row.fr f (λb q=>hG b (.inl q)),λi hi=>(H.lv i hi).fr f (hG _ (.inr ⟨i,hi,rfl⟩)),H.inj,H.apart,H.new⟩
theorem LE.lt(H:LE w bound v h k base):∀i,LF v h k i->i<w.heap.size:=by
 rintro i(q|⟨j,hj,rfl⟩)
 .exact H.row.lt i q
 .exact(H.lv j hj).lt
theorem LE.first(w:World)(bound base:Nat):LE w bound (.slice none 0 0) (λ_=>0) 0 base:=
 ⟨SlF.nil _ _ _ _,λi hi=>by omega,λi j hi=>by omega,λi hi=>by omega,λi q=>by rcases q with q|⟨j,hj,_⟩;cases q;omega⟩
theorem By{h h':Nat->Nat}{k:Nat}(e:∀i,i<k->h i=h' i):(List.range (k*1)).map (qq h bound)=(List.range (k*1)).map (qq h' bound):=by
 apply List.map_congr_left;intro i hi;have:=List.mem_range.1 hi;unfold qq;rw[e i (by omega)]
theorem LE.snoc(H:LE w bound v h k base)(hb:base<=w.heap.size){w1 w2:World}{v':Value}(hz:Blk w1 w.heap.size (szs bound k) (wC aU))(f1:Fr NoF w w1)(hl:w.heap.size<w1.heap.size)
  (ho:w2.ownsRow 0 65 1 v' (k+1) ((List.range (k*1)).map (qq h bound)++[.slice (some ⟨w.heap.size,0,none⟩) (szs bound k) (szs bound k)]))(f2:Fr (λb=>v.ownBlock=some b) w1 w2)(ho2:∀b,v'.ownBlock=some b->v.ownBlock=some b\/w1.heap.size<=b):
  LE w2 bound v' (λi=>if i=k then w.heap.size else h i) (k+1) base/\(∀i,LF v' (λi=>if i=k then w.heap.size else h i) (k+1) i->LF v h k i\/w.heap.size<=i):=by
 have hlt:=H.lt
 have hn:∀i,LF v' (λi=>if i=k then w.heap.size else h i) (k+1) i->LF v h k i\/w.heap.size<=i:=by
  rintro i(q|⟨j,hj,rfl⟩)
  .rcases ho2 i q with q|q
   .exact .inl (.inl q)
   .right;omega
  .by_cases e:j=k
   .right;show w.heap.size<=(if j=k then w.heap.size else h j);rw[if_pos e];exact Nat.le_refl _
   .left;show LF v h k (if j=k then w.heap.size else h j);rw[if_neg e];exact .inr ⟨j,by omega,rfl⟩
 refine⟨⟨?_,λi hi=>?_,λi j hi hj e=>?_,λi hi q=>?_,λi q=>?_⟩,hn⟩
 .have e:=By (bound:=bound) (h:=h) (h':=λi=>if i=k then w.heap.size else h i) (k:=k) (λi hi=>by rw[if_neg (by omega)])
  rw[e]at ho;refine(SlF.snoc1 ho).congr (λi hi=>?_);by_cases e:i=k
  .subst e;rw[upd_same];unfold qq;simp only[if_true]
  .rw[aa _ _ e]
 .by_cases e:i=k
  .subst e
   rw[if_pos rfl];exact hz.fr f2 (λq=>by have:=hlt _ (.inl q);omega)
  .rw[if_neg e]
   exact((H.lv i (by omega)).fr f1 id).fr f2 (λq=>H.apart i (by omega) q)
 .by_cases e1:i=k
  .by_cases e2:j=k
   .rw[e1,e2]
   .rw[if_pos e1,if_neg e2]at e
    have:=hlt _ (.inr ⟨j,by omega,rfl⟩);omega
  .by_cases e2:j=k
   .rw[if_neg e1,if_pos e2]at e
    have:=hlt _ (.inr ⟨i,by omega,rfl⟩);omega
   .rw[if_neg e1,if_neg e2]at e
    exact H.inj i j (by omega) (by omega) e
 .by_cases e1:i=k
  .rw[if_pos e1]at q
   rcases ho2 _ q with q|q
   .have:=hlt _ (.inl q);omega
   .omega
  .rw[if_neg e1]at q
   rcases ho2 _ q with q|q
   .exact H.apart i (by omega) q
   .have:=hlt _ (.inr ⟨i,by omega,rfl⟩);omega
 .rcases hn i q with q|q
  .exact H.new i q
  .omega
theorem LE.ls(H:LE w bound v h (k+1) base)(h0:1<=bound)(h1:bound<=65535)(hk:k<=2)(ht:szs bound k=1):LS w bound aU v h (k+1):=
 ⟨⟨h0,h1,H.row,λi hi=>by rw[pA];exact H.lv i hi,H.inj,H.apart,by omega,ht,by omega⟩,λx q=>by cases q⟩
end
theorem Bi(w:World)(N:Nat):Blk (w.alloc (.cells (madeCells #[.int .u64 0] N) 27)) w.heap.size N (wC aU):=
 Blk.new _ _ _ _ _ _ rfl (by simp[madeCells]) (λi hi=>by rw[du hi];unfold wC wordOf;rw[ec];simp[Nat.mod_one])
def tH(bound:Nat)(v:Value):Nat->Value
 |0=>.int .i64 bound
 |1=>.int .i64 0
 |_=>v
theorem A8(bound:Nat)(v v':Value)(i:Nat)(hi:i<3):upd (tH bound v) 2 v' i=tH bound v' i:=by
 match i,hi with
 |0,_=>rfl
 |1,_=>rfl
 |2,_=>rfl
theorem af{P:Program}{fn:Func}{p:Tmp}{ty:TypeId}(h:fn.results=#[.cell p ty])(tmps:Array Value)(w:World){g N:Nat}{c:Nat->Value}{d:TypeDesc}(hb:Blk w g N c)(hp:tmps.getD p undef=.pointer (some ⟨g,0,none⟩))
  (hu:P.underlying ty=some d)(hd:(match d with|.struct _|.array _ _=>true|_=>false)=true)(hi:(P.info? ty).map (·.size)=some N):
  (results fn tmps).run P w=.ok (.agg ((List.range N).map c).toArray) w:=by
 obtain⟨cs,t,hh,hs,hc⟩:=hb
 have e:cs=((List.range N).map c).toArray:=by
  apply Array.ext_getElem?;intro i;by_cases hi:i<N
  .rw[hc i hi];simp[hi]
  .rw[Array.getElem?_eq_none (by omega)];simp[hi]
 rw[<-e];exact results_cell_row h tmps w g t cs (0,0) d hp hh hu hd (by rw[hi,hs])
theorem jP(bound:Nat)(w:World)(hb0:1<=bound)(hb:bound<=65535):Calls prog 36 #[.int .i64 bound] w λe w'=>∃v h L,e=.returned (.agg #[.int .i64 bound,.int .i64 0,v])/\LS w' bound aU v h L/\(∀k,LF v h L k->w.heap.size<=k)/\Fr NoF w w':=by
 obtain⟨i0,hi0,hz0,hz1,hz2⟩:=bq (P:=prog) (e:=27) (z:=.int .u64 0) (s:=1) (b:=8) (by kernel_rfl)
 have mk1:∀(n:Nat) (w:World),n<=1024->(Instr.makeSlice 65 (.int .i64 (n:Int)) (.int .i64 (n:Int))).run prog w=
   .ok (.slice (some ⟨w.heap.size,0,none⟩) n n) (w.alloc (.cells (madeCells #[.int .u64 0] n) 27)):=by
  intro n w hn;have:=run_make (P:=prog) w 65 27 i0 _ underlying65 hi0 hz0 .i64 .i64 (n:Int) (n:Int) (by omega) (Int.le_refl _) (by rw[hz2];omega) (by omega);rw[show((n:Int)).toNat=n from by omega,hz1,Nat.mul_one]at this;exact this
 have HMK:=Hd mk1;clear hi0 hz0 hz1 hz2 mk1;go_enter func36,ntmps36;go_wp2;have hszA:((w.alloc (.cells #[.int .i64 0,.int .i64 0,.slice none 0 0] 114)).alloc (.cells #[.int .i64 bound,.int .i64 0,.slice none 0 0] 114)).heap.size=w.heap.size+2:=by simp
 have HA:Hid (Fr NoF w ((w.alloc (.cells #[.int .i64 0,.int .i64 0,.slice none 0 0] 114)).alloc (.cells #[.int .i64 bound,.int .i64 0,.slice none 0 0] 114))):=((Fr.refl NoF w).alloc _).alloc _
 have HRB:Hid (Blk ((w.alloc (.cells #[.int .i64 0,.int .i64 0,.slice none 0 0] 114)).alloc (.cells #[.int .i64 bound,.int .i64 0,.slice none 0 0] 114)) w.heap.size 3 (tH 0 (.slice none 0 0))):=(Blk.new _ _ _ _ _ _ rfl rfl (λi hi=>by
  match i,hi with
  |0,_=>rfl
  |1,_=>rfl
  |2,_=>rfl)).alloc _
 have HSB:Hid (Blk ((w.alloc (.cells #[.int .i64 0,.int .i64 0,.slice none 0 0] 114)).alloc (.cells #[.int .i64 bound,.int .i64 0,.slice none 0 0] 114)) (w.heap.size+1) 3 (tH bound (.slice none 0 0))):=Blk.new _ _ _ _ _ _ (by simp) rfl (λi hi=>by
  match i,hi with
  |0,_=>rfl
  |1,_=>rfl
  |2,_=>rfl)
 generalize((w.alloc (.cells #[.int .i64 0,.int .i64 0,.slice none 0 0] 114)).alloc (.cells #[.int .i64 bound,.int .i64 0,.slice none 0 0] 114))=wA at*;have hsbA:w.heap.size+1<wA.heap.size:=by omega
 have hsbB:w.heap.size<w.heap.size+1:=by omega
 generalize w.heap.size+1=sb at*
 go_loopw [4] (λxv wr=>∃k v h,xv=.int .i64 (wd bound k:Nat)/\(k=0\/2<=wd bound k)/\Hid (LE wr bound v h k wA.heap.size)/\Hid (Blk wr (sb) 3 (tH bound v))/\Hid (Fr (λi=>i=sb) wA wr)) (λxv _=>(intOf xv).toNat)
 case atStart=>exact⟨0,_,_,rfl,.inl rfl,LE.first _ _ _,HSB.out,Fr.refl _ _⟩
 case round=>
  obtain⟨k,v,h,rfl,hk,HE,HB,HF⟩:=hrel;have hk2:=Gc hb hk;have hwn:=Cc bound k;have hszk:=oj hb k;have hpos:1<=wd bound k:=by rcases hk with rfl|q;exact hb0;omega
  have hwle:wd bound k<=65535:=by
   cases k with
   |zero=>exact hb
   |succ k=>have:=oj hb k;show szs bound k<=65535;omega
  have hszr:=HF.out.size;have HRW:=Hd HE.out.row;obtain⟨va,vc,rfl,_,_⟩:=HE.out.row.shape;have s2:wr.cell? ⟨sb,2,none⟩=some (.slice va k vc):=HB.out.cell (i:=2) (by omega);have sl:=HB.out.lt;have sf:=HB.out.frozen 2;have sl2:sb<wr.heap.size+1:=by omega
  have sl3:sb<wr.heap.size+1+1:=by omega
  have K:Hid (∀W v' w2,Fr NoF wr W->Blk W wr.heap.size (szs bound k) (wC aU)->wr.heap.size<W.heap.size->w2.ownsRow 0 65 1 v' (k+1) ((List.range (k*1)).map (qq h bound)++[.slice (some ⟨wr.heap.size,0,none⟩) (szs bound k) (szs bound k)])->Fr (λb=>(Value.slice va k vc).ownBlock=some b) W w2->(∀b,v'.ownBlock=some b->(Value.slice va k vc).ownBlock=some b\/W.heap.size<=b)->
    ∃va' vc',v'=.slice va' (k+1) vc'/\w2.cell? ⟨sb,2,none⟩=some (.slice va k vc)/\w2.frozen? ⟨sb,2,none⟩=false/\sb<w2.heap.size/\
    Hid (∃h',LE (w2.setCell ⟨sb,2,none⟩ v') bound v' h' (k+1) wA.heap.size/\Blk (w2.setCell ⟨sb,2,none⟩ v') (sb) 3 (tH bound v')/\Fr (λi=>i=sb) wA (w2.setCell ⟨sb,2,none⟩ v'))):=by
   intro W v' w2 f1 hz hl ho f2 ho2;obtain⟨q1,q2⟩:=HE.out.snoc hszr hz f1 hl ho f2 ho2;obtain⟨va',vc',e,_,_⟩:=q1.row.shape;have hnv:∀b,(Value.slice va k vc).ownBlock=some b->¬b=sb:=λb q e=>by have:=HE.out.new b (.inl q);omega
   have B2:=(HB.out.fr f1 id).fr f2 (λq=>hnv _ q rfl);have c2:=B2.cell (i:=2) (by omega);have F2:Fr (λi=>i=sb) wA w2:=HF.out.trans (G:=λb=>(Value.slice va k vc).ownBlock=some b) ((f1.mono (λ_ q=>q.elim)).trans f2 (λi q=>.inl q)) (λi q=>.inr (HE.out.new i (.inl q)));refine⟨va',vc',e,c2,B2.frozen 2,B2.lt,_,q1.fr ((Fr.refl (λi=>i=sb) w2).setCell (p:=⟨sb,2,none⟩) (.inl rfl) _) (λi q e=>by have:=q1.new i q;omega),(B2.set 2 v').congr (λi hi=>A8 _ _ _ i hi),F2.setCell (p:=⟨sb,2,none⟩) (.inl rfl) _⟩
  clear HE HF;have hw1:IntKind.i64.wrap ((wd bound k:Nat)+64:Int)=(wd bound k:Nat)+64:=IntWalk.i64_in _ (by omega);have hw2:IntKind.i64.wrap ((wd bound k:Nat)+64-1:Int)=(wd bound k:Nat)+64-1:=IntWalk.i64_in _ (by omega);have hw3:((wd bound k:Nat)+64-1:Int)/64=(szs bound k:Nat):=by omega
  have mk:∀w,(Instr.makeSlice 65 (.int .i64 (((wd bound k:Nat)+64-1:Int)/64)) (.int .i64 (((wd bound k:Nat)+64-1:Int)/64))).run prog w=.ok (.slice (some ⟨w.heap.size,0,none⟩) (szs bound k) (szs bound k)) (w.alloc (.cells (madeCells #[.int .u64 0] (szs bound k)) 27)):=λw=>by rw[hw3];exact HMK.out (szs bound k) w hszk
  have HW3:=Hd hw3;have HWK:Hid (wd bound (k+1)=szs bound k):=rfl;have HT:Hid (szs bound k=1->∀w' v' h',LE w' bound v' h' (k+1) wA.heap.size->LS w' bound aU v' h' (k+1)):=λq w' v' h' hle=>hle.ls hb0 hb hk2 q
  clear hwn hw3;generalize wd bound k=wk at*;go_wp2
  go_region_law(first
   |(refine eU (base:=0) EIw rfl (.tmp 15) (.tmp 18) rfl (by rfl) (by rfl) (Nat.zero_le _) (ak HRW.out (by repeat(first|exact Fr.refl NoF _|apply Fr.drew|apply Fr.alloc)) (λ_ _ q=>q)) (jY (size:=1) (n:=1) (cs:=#[.slice (some ⟨wr.heap.size,0,none⟩) (szs bound k) (szs bound k)]) (by(try rw[heap_drew]);refine heap_alloc_new _ _ _ ?_;simp) (by rfl) (by unfold maxLen;omega) (by simp[Value.oneCell'])) (by unfold maxLen;omega) (by omega) ?_;intro v' w2 hown' hf' hob';obtain⟨va',vc',rfl,c2,f2,l2,HR⟩:=K.out _ v' w2 (by repeat(first|exact Fr.refl NoF _|apply Fr.drew|apply Fr.alloc)) (by repeat(first|exact Bi _ _|apply Blk.drew|apply Blk.alloc)) (by simp<;>omega) hown' hf' hob';clear hown' hf' hob'))
  all_goals
   obtain⟨h',HE2,HB2,HF2⟩:=HR.out;have HE2:=Hd HE2;have HB2:=Hd HB2;have HF2:=Hd HF2;clear HR c2 f2 l2;generalize w2.setCell ⟨sb,2,none⟩ (.slice va' (k+1) vc')=w3 at*;by_cases h1:szs bound k=1
   .have HLS:=Hd (HT.out h1 _ _ _ HE2.out)
    have hz:(((wk:Int)+64-1)/64==1)=true:=by rw[HW3.out,h1];rfl
    have s0:w3.cell? ⟨sb,0,none⟩=some (.int .i64 bound):=HB2.out.cell (i:=0) (by omega);have s1:w3.cell? ⟨sb,1,none⟩=some (.int .i64 0):=HB2.out.cell (i:=1) (by omega);have s2':w3.cell? ⟨sb,2,none⟩=some (.slice va' (k+1) vc'):=HB2.out.cell (i:=2) (by omega);have ls:=HB2.out.lt;have RB:=HRB.out.fr HF2.out (λe=>by omega);have HRB3:=Hd RB;have t0:w3.cell? ⟨w.heap.size,0,none⟩=some (.int .i64 0):=RB.cell (i:=0) (by omega);have t1:w3.cell? ⟨w.heap.size,1,none⟩=some (.int .i64 0):=RB.cell (i:=1) (by omega);have t2:w3.cell? ⟨w.heap.size,2,none⟩=some (.slice none 0 0):=RB.cell (i:=2) (by omega);have g0:=RB.frozen 0;have g1:=RB.frozen 1;have g2:=RB.frozen 2;have lr:=RB.lt;have hne:¬w.heap.size=sb:=by omega
    clear RB h1;have HRS:Hid (Blk (((w3.setCell ⟨w.heap.size,0,none⟩ (.int .i64 bound)).setCell ⟨w.heap.size,1,none⟩ (.int .i64 0)).setCell ⟨w.heap.size,2,none⟩ (.slice va' (k+1) vc')) w.heap.size 3 (upd (upd (upd (tH 0 (.slice none 0 0)) 0 (.int .i64 bound)) 1 (.int .i64 0)) 2 (.slice va' (k+1) vc'))):=((HRB3.out.set 0 _).set 1 _).set 2 _;have F3:Fr (λi=>i=w.heap.size) w3 (((w3.setCell ⟨w.heap.size,0,none⟩ (.int .i64 bound)).setCell ⟨w.heap.size,1,none⟩ (.int .i64 0)).setCell ⟨w.heap.size,2,none⟩ (.slice va' (k+1) vc')):=(((Fr.refl (λi=>i=w.heap.size) w3).setCell (p:=⟨w.heap.size,0,none⟩) (.inl rfl) _).setCell (p:=⟨w.heap.size,1,none⟩) (.inl rfl) _).setCell (p:=⟨w.heap.size,2,none⟩) (.inl rfl) _;have HF3:=Hd F3;clear F3;go_wp2
    (try simp only[Exit.inBlock,Exit.then])
    refine bodyPost_ret (af Tryz.results36 _ _ HRS.out rfl underlying114 rfl (by kernel_rfl)) rfl ?_;have hA:=HA.out.size;refine⟨.slice va' (k+1) vc',h',k+1,rfl,⟨HLS.out.r.fr HF3.out (λi q e=>by have:=HE2.out.new i q;omega),HLS.out.dom⟩,λi q=>by have:=HE2.out.new i q;omega,(HA.out.trans (G:=λi=>i=sb) HF2.out (λi q=>.inr (by omega))).trans (G:=λi=>i=w.heap.size) HF3.out (λi q=>.inr (by omega))⟩
   .have hz:(((wk:Int)+64-1)/64==1)=false:=by
     have:=HW3.out;simp;omega
    have hpos2:=vL hb0 k;have hlt:szs bound k<wk:=by have:=HW3.out;omega
    have hge:2<=szs bound k:=by omega
    go_wp2
    go_roundw
    case rel=>exact⟨k+1,_,h',by rw[HWK.out,<-HW3.out],.inr (by rw[HWK.out];exact hge),HE2.out,HB2.out,HF2.out⟩
    case measure=>simp[intOf]<;>omega
end
end Go.Proofs.YtoenclhimbpfeaaGreatDoor
