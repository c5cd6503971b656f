/- Part 16. -/
import Derived.Test.YtoenclhimbpfeaaGreatDoorC14
import Derived.Test.YtoenclhimbpfeaaGreatDoorC15
namespace Go.Proofs.YtoenclhimbpfeaaGreatDoor
set_option linter.all false
set_option maxHeartbeats 16000000
set_option maxRecDepth 100000
section
open Go.Maps Go.Proofs.Tryz Go.RowKit
def RS.copy(r:RS):RS:=⟨r.room,r.L,[],[],0,0,false,0⟩
theorem DRel.copy{s:DS}{r:RS}(h:DRel s r):DRel s.copy r.copy:=⟨h.room,h.L,rfl,rfl,rfl,fun q=>(by cases q),fun _ _ _=>rfl,fun _ _ _=>rfl,h.np⟩
section
variable{w w':World}{db m:Nat}{r:RS}{F:Nat->Prop}
theorem cd_copy(h:CD db r m w F):Calls prog 18 #[.pointer (some ⟨db,0,none⟩)] w fun e w'=>∃db' F',e=.returned (.pointer (some ⟨db',0,none⟩))∧CD db' r.copy 0 w' F'∧(∀i,F' i->w.heap.size<=i)∧Fr NoF w w':=by
 obtain⟨s,c,pv,fv,mb,fh,nf,h1,h2,h3,h4⟩:=h;refine(dk_copy h1).mono ?_;rintro e w'⟨db',pv',fv',mb',he,hd,hb,f⟩;exact⟨db',_,he,⟨s.copy,0,pv',fv',mb',fh,nf,hd,.inl (h2.elim (fun q=>q.copy) (fun q=>q.2.1.copy)),⟨Nat.le_refl _,Nat.le_refl _,Nat.le_refl _⟩,fun i=>Iff.rfl⟩,hb,f⟩
end
section
variable{p:PP}{a b:Nat}{w:World}{F:Nat->Prop}{R':World->(Nat->Prop)->Prop}
theorem call_endG(fr:Frm R'){w0 w1:World}(h0:w0.heap.size=w.heap.size+3)(f0:Fr NoF w w0)(hl:∀i,F i->i<w.heap.size)(ht:0<w.heap.size)(b1:Blk w0 (w.heap.size+1) 3 zAn)(b2:Blk w0 (w.heap.size+1+1) 3 zAn)(h:Led R' F w0 w1):
  Blk w1 (w.heap.size+1) 3 zAn∧Blk w1 (w.heap.size+1+1) 3 zAn∧∀wf,Fr (fun j=>j=w.heap.size+1∨j=w.heap.size+1+1) w1 wf->Led R' F w wf:=by
 obtain⟨F',h1,f1,hF⟩:=h;refine⟨b1.fr f1 (fun k=>by have:=hl _ k;omega),b2.fr f1 (fun k=>by have:=hl _ k;omega),fun wf g=>⟨F',fr.fro h1 g (fun i k=>?_) (by omega),(Fr.trans (f0.none.trans f1 (fun i k=>.inl k)) g (fun i k=>.inr (by omega))),fun i k=>?_⟩⟩
 .rcases hF i k with c|c
  .have:=hl i c;omega
  .omega
 .rcases hF i k with c|c
  .exact .inl c
  .exact .inr (by omega)
theorem call_newG(fr:Frm R')(hl:∀i,F i->i<w.heap.size)(ht:0<w.heap.size)
  (hc:∀W,Fr NoF w W->Calls prog 37 #[p.ptr] W fun e w'=>e=.returned (.tuple #[.int .u32 a,.int .i64 b])∧Led R' F W w'):
  Calls prog 21 #[p.ptr,.agg #[.int .i64 0,.int .u32 0,.int .u64 0]] w fun e w'=>e=.returned (.agg #[.int .i64 b,.int .u32 a,.int .u64 0])∧Led R' F w w':=by
 obtain⟨W,hW⟩:∃W,W=((w.alloc (.cells #[.int .i64 0,.int .u32 0,.int .u64 0] 36)).alloc (.cells #[.int .i64 0,.int .u32 0,.int .u64 0] 48)).alloc (.cells #[.int .i64 0,.int .u32 0,.int .u64 0] 48):=⟨_,rfl⟩
 have f0:Fr NoF w W:=by
  rw[hW];exact(((Fr.refl NoF w).alloc (.cells #[.int .i64 0,.int .u32 0,.int .u64 0] 36)).alloc (.cells #[.int .i64 0,.int .u32 0,.int .u64 0] 48)).alloc (.cells #[.int .i64 0,.int .u32 0,.int .u64 0] 48)
 have b0:Blk W w.heap.size 3 (fun i=>match i with|0=>.int .i64 0|1=>.int .u32 0|_=>.int .u64 0):=by
  rw[hW];exact((blkAn w _ _ _).alloc _).alloc _
 have b1:Blk W (w.heap.size+1) 3 zAn:=by
  have b1:=(blkAn (w.alloc (.cells #[.int .i64 0,.int .u32 0,.int .u64 0] 36)) (.int .i64 0) (.int .u32 0) (.int .u64 0) (t:=48)).alloc (.cells #[.int .i64 0,.int .u32 0,.int .u64 0] 48);rw[World.size_alloc]at b1;rw[hW];exact b1
 have b2:Blk W (w.heap.size+1+1) 3 zAn:=by
  have b2:=blkAn ((w.alloc (.cells #[.int .i64 0,.int .u32 0,.int .u64 0] 36)).alloc (.cells #[.int .i64 0,.int .u32 0,.int .u64 0] 48)) (.int .i64 0) (.int .u32 0) (.int .u64 0) (t:=48);rw[World.size_alloc,World.size_alloc]at b2;rw[hW];exact b2
 have hs:W.heap.size=w.heap.size+3:=by rw[hW];simp only[World.size_alloc]
 have HC:=Hd (hc W f0);have KE:=Hd (fun(w1:World) (h1:Led R' F W w1)=>call_endG fr hs f0 hl ht b1 b2 h1);have hb0:=b0.lt;have x0:=b0.cell (i:=0) (by omega);clear hc f0 b0 b1 b2 hs;unfold PP.ptr at*;go_enter func21,ntmps21
 go_wp2_with fail
 rw[<-hW];refine HC.out.mono ?_;rintro e w1⟨rfl,hl1⟩;obtain⟨c1,c2,c3⟩:=KE.out w1 hl1;have HR:=Hd (((((c1.other (a:=⟨w.heap.size+1+1,1,none⟩) (by simp) (.int .u32 (a:Nat))).other (a:=⟨w.heap.size+1+1,0,none⟩) (by simp) (.int .i64 (b:Nat))).set 0 (.int .i64 (b:Nat))).set 1 (.int .u32 (a:Nat))).set 2 (.int .u64 0));have HL:=Hd (c3 (((((w1.setCell ⟨w.heap.size+1+1,1,none⟩ (.int .u32 (a:Nat))).setCell ⟨w.heap.size+1+1,0,none⟩ (.int .i64 (b:Nat))).setCell ⟨w.heap.size+1,0,none⟩ (.int .i64 (b:Nat))).setCell ⟨w.heap.size+1,1,none⟩ (.int .u32 (a:Nat))).setCell ⟨w.heap.size+1,2,none⟩ (.int .u64 0)) (by repeat(first|exact Fr.refl _ _|refine Fr.setCell ?_ (.inl (by first|exact .inl rfl|exact .inr rfl)) _)));obtain⟨a0,a1,a2,d0,d1,d2,z0,z1,z2,y0,y1,y2,l1,l2⟩:=call_cells c1 c2;clear c1 c2 c3 hl1 hW
 go_wp2_with fail
 (try simp only[Exit.inBlock,Exit.then])
 refine bodyPost_ret (results_blk Tryz.results21 _ _ HR.out rfl underlying48 rfl (by kernel_rfl)) rfl ?_;exact⟨rfl,HL.out⟩
end
end
section
open Go.RowKit
structure Cl where
 kind:Nat
 frame:Nat
 page:Nat
 on:Bool
 want:Int
 size:Nat
 ghosts:List Nat
structure Pol(σ:Type) where
 miss:σ->Nat->σ
 access:σ->Nat->Nat->σ
 set:σ->Nat->Bool->σ
 victim:σ->Nat->Option Nat
 gone:σ->Nat->σ
 remove:σ->Nat->σ
 size:σ->Nat
 ghosts:σ->List Nat
section
variable{σ:Type}(P:Pol σ)
def clMiss(id:Nat):Cl:=⟨0,0,id,false,0,0,[]⟩
def clAcc(a id:Nat):Cl:=⟨1,a,id,false,0,0,[]⟩
def clSet(a:Nat)(v:Bool):Cl:=⟨2,a,0,v,0,0,[]⟩
def clVic(id:Nat)(w:Int):Cl:=⟨3,0,id,false,w,0,[]⟩
def clRem(a:Nat):Cl:=⟨4,a,0,false,0,0,[]⟩
end
end
section
open Go.Proofs.Tryz Go.RowKit
structure CodG{τ:Type}(P:Pol τ)(CR:World->τ->(Nat->Prop)->Prop)(b:Nat)(pre:τ->Cl->Prop)(fM fA fS fV fR:FuncId):Prop where
 fr:∀{w w':World} {s:τ} {F G:Nat->Prop},CR w s F->Fr G w w'->(∀i,F i->¬G i)->CR w' s F
 lt:∀{w:World} {s:τ} {F:Nat->Prop},CR w s F->∀i,F i->i<w.heap.size
 miss:∀{w:World} {s:τ} {F:Nat->Prop} {c:Cl},CR w s F->pre s c->c.kind=0->
  Calls prog fM #[.pointer (some ⟨b,0,none⟩),.int .u32 c.page] w fun e w'=>e=.returned (.tuple #[])∧∃F',CR w' (P.miss s c.page) F'∧Fr F w w'∧∀i,F' i->F i∨w.heap.size<=i
 access:∀{w:World} {s:τ} {F:Nat->Prop} {c:Cl},CR w s F->pre s c->c.kind=1->
  Calls prog fA #[.pointer (some ⟨b,0,none⟩),.int .i64 c.frame,.int .u32 c.page] w fun e w'=>e=.returned (.tuple #[])∧∃F',CR w' (P.access s c.frame c.page) F'∧Fr F w w'∧∀i,F' i->F i∨w.heap.size<=i
 set:∀{w:World} {s:τ} {F:Nat->Prop} {c:Cl},CR w s F->pre s c->c.kind=2->
  Calls prog fS #[.pointer (some ⟨b,0,none⟩),.int .i64 c.frame,.bool c.on] w fun e w'=>e=.returned (.tuple #[])∧∃F',CR w' (P.set s c.frame c.on) F'∧Fr F w w'∧∀i,F' i->F i∨w.heap.size<=i
 victimNo:∀{w:World} {s:τ} {F:Nat->Prop} {c:Cl},CR w s F->pre s c->c.kind=3->P.victim s c.page=none->
  Calls prog fV #[.pointer (some ⟨b,0,none⟩),.int .u32 c.page] w fun e w'=>e=.returned (.tuple #[.int .i64 0,.bool false])∧∃F',CR w' s F'∧Fr F w w'∧∀i,F' i->F i∨w.heap.size<=i
 victimYes:∀{w:World} {s:τ} {F:Nat->Prop} {c:Cl} {a:Nat},CR w s F->pre s c->c.kind=3->P.victim s c.page=some a->
  Calls prog fV #[.pointer (some ⟨b,0,none⟩),.int .u32 c.page] w fun e w'=>e=.returned (.tuple #[.int .i64 a,.bool true])∧∃F',CR w' (P.gone s c.page) F'∧Fr F w w'∧∀i,F' i->F i∨w.heap.size<=i
 remove:∀{w:World} {s:τ} {F:Nat->Prop} {c:Cl},CR w s F->pre s c->c.kind=4->
  Calls prog fR #[.pointer (some ⟨b,0,none⟩),.int .i64 c.frame] w fun e w'=>e=.returned (.tuple #[])∧∃F',CR w' (P.remove s c.frame) F'∧Fr F w w'∧∀i,F' i->F i∨w.heap.size<=i
end
end Go.Proofs.YtoenclhimbpfeaaGreatDoor
