/- Part 41. -/
import Derived.Test.YtkjhnllcphidpaaGreatDoorQ40
import Derived.Shelf.SlSortCmp.NoneTotal
namespace Go.Proofs.YtkjhnllcphidpaaGreatDoor
set_option linter.all false
set_option maxHeartbeats 16000000
set_option maxRecDepth 100000
section
open Go.Maps Go.Proofs.Tryz Go.RowKit
structure EnF where
 c:Nat
 i:Nat
 o:OpF
 a:AnF
def EnF.cells(e:EnF):List Value:=[.int .i64 (e.c:Nat),.int .i64 (e.i:Nat),.int .i64 e.o.k,.int .u32 (e.o.id:Nat),.int .u64 (e.o.v:Nat),.int .i64 (e.a.e:Nat),.int .u32 (e.a.id:Nat),.int .u64 (e.a.v:Nat)]
def logC(l:List EnF):List Value:=l.flatMap EnF.cells
theorem wU(l:List EnF)(e:EnF):logC (l++[e])=logC l++e.cells:=by simp[logC]
theorem dS(l:List EnF):∀u∈logC l,u.oneCell'=true:=by
 intro u hu;obtain⟨e,_,h⟩:=List.mem_flatMap.1 hu;simp only[EnF.cells,List.mem_cons,List.not_mem_nil,or_false]at h;rcases h with rfl|rfl|rfl|rfl|rfl|rfl|rfl|rfl<;>rfl
abbrev fO(w:World)(base:Nat)(lv:Value)(L:List EnF):Prop:=w.ownsRow base 79 8 lv L.length (logC L)
theorem EIe:EI prog 73 79 8 64:=EI.mk' (z:=.agg #[.int .i64 0,.int .i64 0,.int .i64 0,.int .u32 0,.int .u64 0,.int .i64 0,.int .u32 0,.int .u64 0]) underlying73 (by kernel_rfl) rfl (by decide)
def opC(o:OpF):List Value:=[.int .i64 o.k,.int .u32 (o.id:Nat),.int .u64 (o.v:Nat)]
def opsC(l:List OpF):List Value:=l.flatMap opC
theorem oU(l:List OpF){k:Nat}(hk:k<l.length):(opsC l)[k*3]?=some (.int .i64 l[k].k)/\(opsC l)[k*3+1]?=some (.int .u32 (l[k].id:Nat))/\(opsC l)[k*3+2]?=some (.int .u64 (l[k].v:Nat)):=by
 induction l generalizing k with
 |nil=>simp at hk
 |cons x l ih=>
  cases k with
  |zero=>exact⟨rfl,rfl,rfl⟩
  |succ k=>
   obtain⟨q0,q1,q2⟩:=ih (k:=k) (by simpa using hk);have e:∀j,(opsC (x::l))[j+3]?=(opsC l)[j]?:=λj=>by simp[opsC,opC]
   rw[show(k+1)*3=k*3+3 by omega,e,show k*3+3+1=k*3+1+3 by omega,e,show k*3+3+2=k*3+2+3 by omega,e];exact⟨q0,q1,q2⟩
def enC(c i:Nat)(o:OpF)(a:AnF):Nat->Value:=λj=>match j with|0=>.int .i64 (c:Nat)|1=>.int .i64 (i:Nat)|2=>.int .i64 o.k|3=>.int .u32 (o.id:Nat)|4=>.int .u64 (o.v:Nat)|5=>.int .i64 (a.e:Nat)|6=>.int .u32 (a.id:Nat)|_=>.int .u64 (a.v:Nat)
theorem GC(w:World)(c i:Nat)(o:OpF){t:TypeId}:Blk (w.alloc (.cells #[.int .i64 (c:Nat),.int .i64 (i:Nat),.int .i64 o.k,.int .u32 (o.id:Nat),.int .u64 (o.v:Nat),.int .i64 0,.int .u32 0,.int .u64 0] t)) w.heap.size 8 (enC c i o ⟨0,0,0⟩):=Blk.new _ _ _ 8 _ _ rfl rfl (λj hj=>by
 match j,hj with
 |0,_|1,_|2,_|3,_|4,_|5,_|6,_|7,_=>rfl)
theorem Df(c i:Nat)(o:OpF)(a a':AnF){w:World}{g:Nat}(h:Blk w g 8 (enC c i o a)):Blk (((w.setCell ⟨g,5,none⟩ (.int .i64 (a'.e:Nat))).setCell ⟨g,6,none⟩ (.int .u32 (a'.id:Nat))).setCell ⟨g,7,none⟩ (.int .u64 (a'.v:Nat))) g 8 (enC c i o a'):=
 (((h.set 5 (.int .i64 (a'.e:Nat))).set 6 (.int .u32 (a'.id:Nat))).set 7 (.int .u64 (a'.v:Nat))).congr (λj hj=>by
   match j,hj with
   |0,_|1,_|2,_|3,_|4,_|5,_|6,_|7,_=>rfl)
theorem EM(pv cv:Value)(la:Option Nat)(lv lv':Value):upd (frC pv cv la lv) 3 lv'=frC pv cv la lv':=by
 funext j
 unfold upd
 match j with
 |0|1|2|3=>rfl
 |_+4=>simp[frC]
def Bq(p:PP)(q:Bool)(M':AM)(m':Nat)(F:Nat->Prop)(w:World)(b fb mb cnt base:Nat)(i d:Nat)(ov cv:Value)(la:Option Nat)(lv:Value)(L:List EnF)(pin':Nat->Nat)(w':World):Prop:=
 ∃F' cnt' lv',aq p q M' m' w' F'/\(∀j,F' j->F j\/w.heap.size<=j)/\cnt'<=cnt+1/\aG w' mb cnt' (aX pin')/\Blk w' b 5 (clC i ov (d+1) mb b 3)/\Blk w' fb 4 (frC p.ptr cv la lv')/\fO w' base lv' L/\(∀j,lv'.ownBlock=some j->lv.ownBlock=some j\/w.heap.size<=j)/\(∀j,F' j->¬lv'.ownBlock=some j)/\Fr (λj=>F j\/j=mb\/j=b\/j=fb\/lv.ownBlock=some j) w w'
section
variable{p:PP}{q:Bool}{M M':AM}{m m':Nat}{w:World}{F:Nat->Prop}{a:AnF}{b fb i d mb s cnt base n oc:Nat}{oa:Option Addr}{cv lv:Value}{la:Option Nat}{pin pin':Nat->Nat}{l:List OpF}{L:List EnF}
theorem ze(hlt:∀j,F j->j<w.heap.size)(ho:SlC w 3 (.slice oa l.length oc) l.length (opsC l))(hd:d<l.length)(hl:l.length<=100000)(hi:i<100000)(hc:Blk w b 5 (clC i (.slice oa l.length oc) d mb b s))(hf:Blk w fb 4 (frC p.ptr cv la lv))(hL:fO w base lv L)(hLn:L.length<100000)(hb0:base<=w.heap.size)
  (ne:¬b=mb)(nbf:¬b=fb)(nmf:¬mb=fb)(nb:¬F b)(nm:¬F mb)(nf:¬F fb)(no:∀j,(Value.slice oa l.length oc).ownBlock=some j->¬F j/\¬j=b/\¬j=fb/\¬j=mb)(nl:∀j,lv.ownBlock=some j->¬F j/\¬j=b/\¬j=fb/\¬j=mb)(hmb:mb<w.heap.size)(ht:0<w.heap.size)(tb:¬0=b/\¬0=fb/\∀j,lv.ownBlock=some j->¬0=j)
  (HC:∀W,Fr (λj=>j=b) w W->Blk W b 5 (clC i (.slice oa l.length oc) d mb b 0)->Calls prog 149 #[.pointer (some ⟨b,0,none⟩),.pointer (some ⟨fb,0,none⟩),(l[d]).val] W λe w'=>e=.returned a.val/\fZ p q M' m' F W mb cnt pin' w'):
  Calls prog 143 #[.pointer (some ⟨b,0,none⟩),.pointer (some ⟨fb,0,none⟩)] w λe w'=>e=.returned (.bool true)/\Bq p q M' m' F w b fb mb cnt base i d (.slice oa l.length oc) cv la lv (L++[⟨i,d,l[d],a⟩]) pin' w':=by
 obtain⟨q0,q1,q2⟩:=oU l hd;obtain⟨b1,o1,c1,e1,-,-,hb1,g1⟩:=ho.at hd (by omega);simp only[Value.slice.injEq]at e1;obtain⟨rfl,-,rfl⟩:=e1;have p0:=g1 _ _ q0;have p1:=g1 _ _ q1;have p2:=g1 _ _ q2;clear g1 q0 q1 q2;generalize l[d]=o at*;obtain⟨k,pg,v⟩:=o;have nob:=no b1 rfl;have c4:=hc.cell (i:=4) (by omega);have z4:=hc.frozen 4;have lb:=hc.lt;have H0:Hid (Blk (w.setCell ⟨b,4,none⟩ .nilFunc) b 5 (clC i (.slice (some ⟨b1,o1,none⟩) l.length oc) d mb b 0)):=Hd (by have q:=hc.set 4 (nxV b 0);rw[lB]at q;exact q);have F0:Hid (Fr (λj=>j=b) w (w.setCell ⟨b,4,none⟩ .nilFunc)):=Hd ((Fr.refl (λj=>j=b) w).setCell (p:=⟨b,4,none⟩) (.inl rfl) _);have HFB:=Hd (hf.fr F0.out (λ(e:fb=b)=>nbf e.symm));have HLG0:=Hd hL;have HLG:=Hd (am hL F0.out (λj z (e:j=b)=>(nl j z).2.1 e));have HLT:=Hd hlt;have lb00:=hc.lt;have lf00:=hf.lt;have HX:=Hd HC;have NL:=Hd nl;rw[<-Nat.add_assoc]at p1 p2;generalize clC i (.slice (some ⟨b1,o1,none⟩) l.length oc) d mb b s 4=x at*;clear hc hf hL hlt HC no nl ho;go_enter func143,ntmps143
 go_upto_region 2 with fail
 have hsz0:=F0.out.size;rw[<-F0.out.cell (p:=⟨b1,o1+d*3,none⟩) hb1 nob.2.1]at p0;rw[<-F0.out.cell (p:=⟨b1,o1+d*3+1,none⟩) hb1 nob.2.1]at p1;rw[<-F0.out.cell (p:=⟨b1,o1+d*3+2,none⟩) hb1 nob.2.1]at p2;clear c4 z4 lb;generalize w.setCell ⟨b,4,none⟩ .nilFunc=w1 at*;have c0:=H0.out.cell (i:=0) (by omega);have cc1:=H0.out.cell (i:=1) (by omega);have c2:=H0.out.cell (i:=2) (by omega);have lb:=H0.out.lt;simp only[clC]at c0 cc1 c2;have hdI:(d:Int)<(l.length:Int):=by omega
 have lb1:b1<w1.heap.size:=Nat.lt_of_lt_of_le hb1 hsz0
 go_region
 have hB5:=(GC w1 i d ⟨k,pg,v⟩ (t:=79)).drew;have fw2:Fr NoF w1 (w1.alloc (.cells #[.int .i64 (i:Nat),.int .i64 (d:Nat),.int .i64 k,.int .u32 (pg:Nat),.int .u64 (v:Nat),.int .i64 0,.int .u32 0,.int .u64 0] 79)).drew:=((Fr.refl NoF w1).alloc _).drew;have F0:=Hd (F0.out.trans fw2.none (F:=λj=>j=b) (G:=λj=>j=b) (λj z=>.inl z));have H0:=Hd (H0.out.fr fw2 id);have HFB:=Hd (HFB.out.fr fw2 id);have HLG:=Hd (am HLG.out fw2 (λ_ _ z=>z));have HB5:=Hd hB5;have HC0:=Hd (HX.out _ F0.out H0.out);have lg5:w.heap.size<=w1.heap.size:=hsz0;have lg6:w1.heap.size<(w1.alloc (.cells #[.int .i64 (i:Nat),.int .i64 (d:Nat),.int .i64 k,.int .u32 (pg:Nat),.int .u64 (v:Nat),.int .i64 0,.int .u32 0,.int .u64 0] 79)).drew.heap.size:=hB5.lt;clear hB5 fw2 HX p0 p1 p2 c0 cc1 c2 lb lb1 hdI hsz0
 go_upto_region 3 with fail
 generalize(w1.alloc (.cells #[.int .i64 (i:Nat),.int .i64 (d:Nat),.int .i64 k,.int .u32 (pg:Nat),.int .u64 (v:Nat),.int .i64 0,.int .u32 0,.int .u64 0] 79)).drew=w2 at*;generalize w1.heap.size=g at*;have e2:=HB5.out.cell (i:=2) (by omega);have e3:=HB5.out.cell (i:=3) (by omega);have e4:=HB5.out.cell (i:=4) (by omega);simp only[enC]at e2 e3 e4
 go_wp2_with fail
 (try unfold OpF.val AnF.val at HC0)
 refine HC0.out.mono ?_;clear HC0 e2 e3 e4;rintro e w3⟨rfl,F',cnt',h3,hF3,hc3,hp3,fr3⟩;have lw2:w.heap.size<=w2.heap.size:=F0.out.size
 have hB5:=HB5.out.fr fr3 (λz=>by
  rcases z with z|z
  .have:=HLT.out _ z;omega
  .omega)
 have HBE:=Hd (Df i d ⟨k,pg,v⟩ ⟨0,0,0⟩ a hB5);have H0:=Hd (H0.out.fr fr3 (λz=>z.elim nb (λe=>ne e)));have HFB:=Hd (HFB.out.fr fr3 (λz=>z.elim nf (λe=>nmf e.symm)));have HLG:=Hd (am HLG.out fr3 (λj z c=>c.elim (NL.out j z).1 (NL.out j z).2.2.2));have s5:=hB5.cell (i:=5) (by omega);have s6:=hB5.cell (i:=6) (by omega);have s7:=hB5.cell (i:=7) (by omega);have z5:=hB5.frozen 5;have z6:=hB5.frozen 6;have z7:=hB5.frozen 7;have l5:=hB5.lt;simp only[enC]at s5 s6 s7;have fs:Fr (λj=>j=g) w3 (((w3.setCell ⟨g,5,none⟩ (.int .i64 (a.e:Nat))).setCell ⟨g,6,none⟩ (.int .u32 (a.id:Nat))).setCell ⟨g,7,none⟩ (.int .u64 (a.v:Nat))):=(((Fr.refl (λj=>j=g) w3).setCell (p:=⟨g,5,none⟩) (.inl rfl) _).setCell (p:=⟨g,6,none⟩) (.inl rfl) _).setCell (p:=⟨g,7,none⟩) (.inl rfl) _
 have H3:=Hd (h3.fro fs (λj z (e:j=g)=>by
  subst e;rcases hF3 _ z with c|c
  .have:=HLT.out _ c;omega
  .omega) (λ(e:_=g)=>by omega))
 have HF3:=Hd hF3;have HP3:=Hd (hp3.fr fs (λ(e:mb=g)=>by omega));have lbw:=H0.out.lt;have H0:=Hd (H0.out.fr fs (λ(e:b=g)=>by omega));have HFB:=Hd (HFB.out.fr fs (λ(e:fb=g)=>by omega));have lvl:∀j,lv.ownBlock=some j->j<w.heap.size:=λj z=>by rcases World.ownsRow.lt HLG0.out j z with⟨_,c⟩;exact c
 have HLG:=Hd (am HLG.out fs (λj z (e:j=g)=>by have:=lvl j z;omega));have FW:Hid (Fr (λj=>F j\/j=mb\/j=b) w (((w3.setCell ⟨g,5,none⟩ (.int .i64 (a.e:Nat))).setCell ⟨g,6,none⟩ (.int .u32 (a.id:Nat))).setCell ⟨g,7,none⟩ (.int .u64 (a.v:Nat)))):=Hd (((F0.out.mono (λj z=>.inr (.inr z))).trans fr3 (λj z=>.inl (z.elim .inl (λe=>.inr (.inl e))))).trans fs (λj e=>.inr (by omega)));clear h3 hp3 hF3 fs hB5
 go_upto_region 4 with fail
 clear s5 s6 s7 z5 z6 z7 l5;generalize((w3.setCell ⟨g,5,none⟩ (.int .i64 (a.e:Nat))).setCell ⟨g,6,none⟩ (.int .u32 (a.id:Nat))).setCell ⟨g,7,none⟩ (.int .u64 (a.v:Nat))=w4 at*;have fdr:Fr NoF w4 w4.drew:=(Fr.refl NoF w4).drew;have HFB:=Hd (HFB.out.fr fdr id);have HBE:=Hd (HBE.out.fr fdr id);have H0:=Hd (H0.out.fr fdr id);have HLG:=Hd (am HLG.out fdr (λ_ _ z=>z));have H3:=Hd (H3.out.fr0 fdr);have HP3:=Hd (HP3.out.fr fdr id);have FW:=Hd (FW.out.trans fdr (λ_ z=>z.elim));have HSZ:Hid (base<=w4.drew.heap.size):=Hd (Nat.le_trans hb0 FW.out.size);have HLN:Hid (L.length<100000):=Hd hLn;clear fdr;refine fC (λw'=>w'.cell? ⟨fb,3,none⟩=some lv/\w'.cell? ⟨g,0,none⟩=some (.int .i64 (i:Nat))/\w'.cell? ⟨g,1,none⟩=some (.int .i64 (d:Nat))/\w'.cell? ⟨g,2,none⟩=some (.int .i64 k)/\w'.cell? ⟨g,3,none⟩=some (.int .u32 (pg:Nat))/\w'.cell? ⟨g,4,none⟩=some (.int .u64 (v:Nat))/\w'.cell? ⟨g,5,none⟩=some (.int .i64 (a.e:Nat))/\w'.cell? ⟨g,6,none⟩=some (.int .u32 (a.id:Nat))/\w'.cell? ⟨g,7,none⟩=some (.int .u64 (a.v:Nat))) 10 (by kernel_rfl) rfl rfl (by kernel_rfl) ?_;simp only[List.take_succ_cons,List.take_zero];generalize w4.drew=wF at*;have cF:=HFB.out.cell (i:=3) (by omega);simp only[frC]at cF
 have KF:Hid (∀W W',Fr NoF wF W->Fr (λb=>lv.ownBlock=some b) W W'->(λw'=>w'.cell? ⟨fb,3,none⟩=some lv/\w'.cell? ⟨g,0,none⟩=some (.int .i64 (i:Nat))/\w'.cell? ⟨g,1,none⟩=some (.int .i64 (d:Nat))/\w'.cell? ⟨g,2,none⟩=some (.int .i64 k)/\w'.cell? ⟨g,3,none⟩=some (.int .u32 (pg:Nat))/\w'.cell? ⟨g,4,none⟩=some (.int .u64 (v:Nat))/\w'.cell? ⟨g,5,none⟩=some (.int .i64 (a.e:Nat))/\w'.cell? ⟨g,6,none⟩=some (.int .u32 (a.id:Nat))/\w'.cell? ⟨g,7,none⟩=some (.int .u64 (a.v:Nat))) W'):=Hd λW W' f f2=>by
  have h1:=(HFB.out.fr f id).fr f2 (λz=>(NL.out _ z).2.2.1 rfl);have h2:=(HBE.out.fr f id).fr f2 (λz=>by have:=lvl _ z;omega);exact⟨h1.cell (i:=3) (by omega),h2.cell (i:=0) (by omega),h2.cell (i:=1) (by omega),h2.cell (i:=2) (by omega),h2.cell (i:=3) (by omega),h2.cell (i:=4) (by omega),h2.cell (i:=5) (by omega),h2.cell (i:=6) (by omega),h2.cell (i:=7) (by omega)⟩
 have KS:Hid (∀W,Fr NoF wF W->(λw'=>w'.cell? ⟨fb,3,none⟩=some lv/\w'.cell? ⟨g,0,none⟩=some (.int .i64 (i:Nat))/\w'.cell? ⟨g,1,none⟩=some (.int .i64 (d:Nat))/\w'.cell? ⟨g,2,none⟩=some (.int .i64 k)/\w'.cell? ⟨g,3,none⟩=some (.int .u32 (pg:Nat))/\w'.cell? ⟨g,4,none⟩=some (.int .u64 (v:Nat))/\w'.cell? ⟨g,5,none⟩=some (.int .i64 (a.e:Nat))/\w'.cell? ⟨g,6,none⟩=some (.int .u32 (a.id:Nat))/\w'.cell? ⟨g,7,none⟩=some (.int .u64 (a.v:Nat))) W):=Hd λW f=>KF.out W W f (Fr.refl _ _)
 have hS:(λw'=>w'.cell? ⟨fb,3,none⟩=some lv/\w'.cell? ⟨g,0,none⟩=some (.int .i64 (i:Nat))/\w'.cell? ⟨g,1,none⟩=some (.int .i64 (d:Nat))/\w'.cell? ⟨g,2,none⟩=some (.int .i64 k)/\w'.cell? ⟨g,3,none⟩=some (.int .u32 (pg:Nat))/\w'.cell? ⟨g,4,none⟩=some (.int .u64 (v:Nat))/\w'.cell? ⟨g,5,none⟩=some (.int .i64 (a.e:Nat))/\w'.cell? ⟨g,6,none⟩=some (.int .u32 (a.id:Nat))/\w'.cell? ⟨g,7,none⟩=some (.int .u64 (a.v:Nat))) wF:=KS.out _ (Fr.refl _ _);refine wpAnyH_take (i:=0) (v:=?_) rfl (by decide+kernel) (by decide+kernel) (by decide+kernel) (λ_ _ _ h=>h) (Or.inl ⟨by rfl,?_⟩) hS ?_
 rotate_left
 .intro wS hSw;(try dsimp only at hSw);go_simp
  try with_reducible rfl
 try simp only[Act.put,List.setIfInBounds_toArray,List.set_cons_zero,List.set_cons_succ]
 refine wpAnyH_take (i:=1) (v:=?_) rfl (by decide+kernel) (by decide+kernel) (by decide+kernel) (λ_ _ _ h=>h) (Or.inl ⟨by rfl,?_⟩) hS ?_
 rotate_left
 .intro wS hSw;(try dsimp only at hSw);go_simp
  try with_reducible rfl
 try simp only[Act.put,List.setIfInBounds_toArray,List.set_cons_zero,List.set_cons_succ]
 refine wpAnyH_take (i:=2) (v:=?_) rfl (by decide+kernel) (by decide+kernel) (by decide+kernel) (λ_ _ _ h=>h) (Or.inl ⟨by rfl,?_⟩) hS ?_
 rotate_left
 .intro wS hSw;(try dsimp only at hSw);go_simp
  try with_reducible rfl
 try simp only[Act.put,List.setIfInBounds_toArray,List.set_cons_zero,List.set_cons_succ]
 refine wpAnyH_take (i:=3) (v:=?_) rfl (by decide+kernel) (by decide+kernel) (by decide+kernel) (λ_ _ _ h=>h) (Or.inl ⟨by rfl,?_⟩) hS ?_
 rotate_left
 .intro wS hSw;(try dsimp only at hSw);go_simp
  try with_reducible rfl
 try simp only[Act.put,List.setIfInBounds_toArray,List.set_cons_zero,List.set_cons_succ]
 refine wpAnyH_take (i:=4) (v:=?_) rfl (by decide+kernel) (by decide+kernel) (by decide+kernel) (λ_ _ _ h=>h) (Or.inl ⟨by rfl,?_⟩) hS ?_
 rotate_left
 .intro wS hSw;(try dsimp only at hSw);go_simp
  try with_reducible rfl
 try simp only[Act.put,List.setIfInBounds_toArray,List.set_cons_zero,List.set_cons_succ]
 refine wpAnyH_take (i:=5) (v:=?_) rfl (by decide+kernel) (by decide+kernel) (by decide+kernel) (λ_ _ _ h=>h) (Or.inl ⟨by rfl,?_⟩) hS ?_
 rotate_left
 .intro wS hSw;(try dsimp only at hSw);go_simp
  try with_reducible rfl
 try simp only[Act.put,List.setIfInBounds_toArray,List.set_cons_zero,List.set_cons_succ]
 clear hS;refine wpAnyH_ready (rs:=[6]) (by kernel_rfl) (by simp) ?_;refine AllReadyH.cons rfl (λK hK=>?_) ?_
 .go_simp
  refine hK.out _ _ (by first|exact KZ.out|exact KS.out _ (by repeat(first|exact Fr.refl NoF _|apply Fr.drew|apply Fr.drewN|apply Fr.alloc))) (λhS=>?_);clear hK K
  try simp only[Act.put,List.setIfInBounds_toArray,List.set_cons_zero,List.set_cons_succ]
  refine wpAnyH_ready (rs:=[7]) (by kernel_rfl) (by simp) ?_;refine AllReadyH.cons rfl (λK hK=>?_) ?_
  .refine nG (base:=base) EIe rfl (.tmp 38) (.tmp 40) rfl (by rfl) (by rfl) (Nat.le_trans HSZ.out (Fr.size (F:=NoF) (w:=wF) (by repeat(first|exact Fr.refl NoF _|apply Fr.drew|apply Fr.drewN|apply Fr.alloc)))) (am HLG.out (by repeat(first|exact Fr.refl NoF _|apply Fr.drew|apply Fr.drewN|apply Fr.alloc)) (λ_ _ q=>q)) (SlC.ofOwn (bo (w0:=wF) (Fr.size (F:=NoF) (by repeat(first|exact Fr.refl NoF _|apply Fr.drew|apply Fr.drewN|apply Fr.alloc))) #[_,_,_,_,_,_,_,_] 79 8 1 _ rfl rfl (by unfold maxLen;omega)) (by intro u hu;simp at hu;rcases hu with rfl|rfl|rfl|rfl|rfl|rfl|rfl|rfl<;>rfl)) (by have:=HLN.out;unfold maxLen;omega) (by have:=HLN.out;omega) ?_;intro v6 w6 hown6 hf6 hob6;have HO6:=Hd hown6;have HF6:=Hd hf6;have HB6:=Hd hob6;have hkz:=KF.out _ _ (by repeat(first|exact Fr.refl NoF _|apply Fr.drew|apply Fr.drewN|apply Fr.alloc)) hf6;have KZ:=Hd hkz;clear hown6 hf6 hob6 hkz
   refine hK.out _ _ (by first|exact KZ.out|exact KS.out _ (by repeat(first|exact Fr.refl NoF _|apply Fr.drew|apply Fr.drewN|apply Fr.alloc))) (λhS=>?_);clear hK K
   try simp only[Act.put,List.setIfInBounds_toArray,List.set_cons_zero,List.set_cons_succ]
   refine wpAnyH_take (i:=8) (v:=?_) rfl (by decide+kernel) (by decide+kernel) (by decide+kernel) (λ_ _ _ h=>h) (Or.inl ⟨by rfl,?_⟩) hS ?_
   rotate_left
   .intro wS hSw;(try dsimp only at hSw);go_simp
    try with_reducible rfl
   try simp only[Act.put,List.setIfInBounds_toArray,List.set_cons_zero,List.set_cons_succ]
   refine wpAnyH_take (i:=9) (v:=?_) rfl (by decide+kernel) (by decide+kernel) (by decide+kernel) (λ_ _ _ h=>h) (Or.inl ⟨by rfl,?_⟩) hS ?_
   rotate_left
   .intro wS hSw;(try dsimp only at hSw);go_simp
    try with_reducible rfl
   try simp only[Act.put,List.setIfInBounds_toArray,List.set_cons_zero,List.set_cons_succ]
   refine wpAnyH_done (by kernel_rfl) ?_ _
   show wpList _ _ _ _ _ _
   have h1c:∀u∈logC L++#[Value.int .i64 (i:Nat),.int .i64 (d:Nat),.int .i64 k,.int .u32 (pg:Nat),.int .u64 (v:Nat),.int .i64 (a.e:Nat),.int .u32 (a.id:Nat),.int .u64 (a.v:Nat)].toList,u.oneCell'=true:=λu hu=>by
    rcases List.mem_append.1 hu with z|z
    .exact dS _ u z
    .simp only[List.mem_cons,List.not_mem_nil,or_false]at z
     rcases z with rfl|rfl|rfl|rfl|rfl|rfl|rfl|rfl<;>rfl
   obtain⟨a6,c6,rfl,-,-⟩:=(SlC.ofOwn HO6.out h1c).shape;clear h1c;have fz:Fr NoF wF (wF.alloc (.cells #[Value.int .i64 (i:Nat),.int .i64 (d:Nat),.int .i64 k,.int .u32 (pg:Nat),.int .u64 (v:Nat),.int .i64 (a.e:Nat),.int .u32 (a.id:Nat),.int .u64 (a.v:Nat)] 79)):=(Fr.refl NoF wF).alloc _;have hB6:=(HFB.out.fr fz id).fr HF6.out (λz=>(NL.out _ z).2.2.1 rfl);have hC6:=(H0.out.fr fz id).fr HF6.out (λz=>(NL.out _ z).2.1 rfl);have f7:Fr (λj=>j=fb) w6 (w6.setCell ⟨fb,3,none⟩ (.slice a6 (L.length+1) c6)):=(Fr.refl (λj=>j=fb) w6).setCell (p:=⟨fb,3,none⟩) (.inl rfl) _;have hC7:=hC6.fr f7 (λ(e:b=fb)=>nbf e);have hB7:=hB6.set 3 (.slice a6 (L.length+1) c6);rw[EM]at hB7;have HB9:=Hd ((hB7.other (a:=⟨b,2,none⟩) (λe=>nbf e.symm) (.int .i64 ((d+1:Nat):Int))).other (a:=⟨b,4,none⟩) (λe=>nbf e.symm) (nxV b 3))
   have HC9:Hid (Blk (((w6.setCell ⟨fb,3,none⟩ (.slice a6 (L.length+1) c6)).setCell ⟨b,2,none⟩ (.int .i64 ((d+1:Nat):Int))).setCell ⟨b,4,none⟩ (nxV b 3)) b 5 (clC i (.slice (some ⟨b1,o1,none⟩) l.length oc) (d+1) mb b 3)):=Hd (by
    have z:=(hC7.set 2 (.int .i64 ((d+1:Nat):Int))).set 4 (nxV b 3);rw[E3,lB]at z;exact z)
   have f9:Fr (λj=>lv.ownBlock=some j\/j=fb\/j=b) wF (((w6.setCell ⟨fb,3,none⟩ (.slice a6 (L.length+1) c6)).setCell ⟨b,2,none⟩ (.int .i64 ((d+1:Nat):Int))).setCell ⟨b,4,none⟩ (nxV b 3)):=((((fz.none.trans HF6.out (λj z=>.inl (.inl z))).trans f7 (λj z=>.inl (.inr (.inl z)))).setCell (p:=⟨b,2,none⟩) (.inl (.inr (.inr rfl))) _).setCell (p:=⟨b,4,none⟩) (.inl (.inr (.inr rfl))) _);have HP9:=Hd (HP3.out.fr f9 (λz=>z.elim (λe=>(NL.out _ e).2.2.2 rfl) (λz=>z.elim nmf (λe=>ne e.symm))));have hF9:∀j,F' j->j<w.heap.size->F j:=λj z c=>(HF3.out j z).resolve_right (by omega)
   have H9:=Hd (H3.out.fro f9 (λj z c=>by
    rcases c with c|c|c
    .exact(NL.out j c).1 (hF9 j z (lvl j c))
    .exact nf (hF9 fb (c▸z) lf00)
    .exact nb (hF9 b (c▸z) lb00)) (λc=>by
    rcases c with c|c|c
    .exact tb.2.2 _ c rfl
    .exact tb.2.1 c
    .exact tb.1 c))
   have HL9:Hid (fO (((w6.setCell ⟨fb,3,none⟩ (.slice a6 (L.length+1) c6)).setCell ⟨b,2,none⟩ (.int .i64 ((d+1:Nat):Int))).setCell ⟨b,4,none⟩ (nxV b 3)) base (.slice a6 (L.length+1) c6) (L++[⟨i,d,⟨k,pg,v⟩,a⟩])):=Hd (by
    have z:w6.ownsRow base 79 8 (.slice a6 (L.length+1) c6) (L++[(⟨i,d,⟨k,pg,v⟩,a⟩:EnF)]).length (logC (L++[(⟨i,d,⟨k,pg,v⟩,a⟩:EnF)])):=by rw[wU,List.length_append];exact HO6.out
    have own:∀j,(Value.slice a6 (L.length+1) c6).ownBlock=some j->¬j=fb/\¬j=b:=λj c=>by
     rcases HB6.out j c with c|c
     .exact⟨(NL.out j c).2.2.1,(NL.out j c).2.1⟩
     .have h1:=fz.size
      have h2:=FW.out.size;exact⟨by omega,by omega⟩
    exact am (am (am z f7 (λj c e=>(own j c).1 e)) ((Fr.refl (λj=>j=b) _).setCell (p:=⟨b,2,none⟩) (.inl rfl) _) (λj c e=>(own j c).2 e)) ((Fr.refl (λj=>j=b) _).setCell (p:=⟨b,4,none⟩) (.inl rfl) _) (λj c e=>(own j c).2 e))
   have HO9:Hid (∀j,(Value.slice a6 (L.length+1) c6).ownBlock=some j->lv.ownBlock=some j\/w.heap.size<=j):=Hd (λj c=>(HB6.out j c).imp id (λc=>by have:=fz.size;have:=FW.out.size;omega))
   have HN9:Hid (∀j,F' j->¬(Value.slice a6 (L.length+1) c6).ownBlock=some j):=Hd (λj z c=>by
    rcases HB6.out j c with c|c
    .exact(NL.out j c).1 (hF9 j z (lvl j c))
    .have h1:=H3.out.lt j z
     have h2:=fz.size;omega)
   have FW9:Hid (Fr (λj=>F j\/j=mb\/j=b\/j=fb\/lv.ownBlock=some j) w (((w6.setCell ⟨fb,3,none⟩ (.slice a6 (L.length+1) c6)).setCell ⟨b,2,none⟩ (.int .i64 ((d+1:Nat):Int))).setCell ⟨b,4,none⟩ (nxV b 3))):=Hd ((FW.out.mono (λj z=>z.imp id (λz=>z.imp id .inl))).trans f9 (λj z=>.inl (by rcases z with z|z|z;(exact .inr (.inr (.inr (.inr z))));(exact .inr (.inr (.inr (.inl z))));(exact .inr (.inr (.inl z))))));have HX9:Hid (Bq p q M' m' F w b fb mb cnt base i d (.slice (some ⟨b1,o1,none⟩) l.length oc) cv la lv (L++[⟨i,d,⟨k,pg,v⟩,a⟩]) pin' (((w6.setCell ⟨fb,3,none⟩ (.slice a6 (L.length+1) c6)).setCell ⟨b,2,none⟩ (.int .i64 ((d+1:Nat):Int))).setCell ⟨b,4,none⟩ (nxV b 3))):=Hd ⟨F',cnt',_,H9.out,λj z=>(HF3.out j z).imp id (λc=>by omega),hc3,HP9.out,HC9.out,HB9.out,HL9.out,HO9.out,HN9.out,FW9.out⟩;have k1:=KZ.out.1;have k2:=hB6.frozen 3;have k3:=hB6.lt;have r2:=hC7.cell (i:=2) (by omega);have r4:=hC7.cell (i:=4) (by omega);have y2:=hC7.frozen 2;have y4:=hC7.frozen 4;have y5:=hC7.lt;simp only[clC,nxV]at r2 r4;have wd:IntKind.i64.wrap ((d:Int)+1)=((d+1:Nat):Int):=by rw[IntWalk.i64_in _ (by omega)];omega
   clear fz hB6 hC6 f7 hC7 hB7 f9 hF9 HO6 HF6 HB6 KZ KS KF cF H3 HP3 HB9 HC9 HP9 H9 HL9 HO9 HN9 FW9
   go_upto_region 5 with fail
   generalize(w6.setCell ⟨fb,3,none⟩ (.slice a6 (L.length+1) c6))=w7 at*;go_wp2;go_returns;exact⟨rfl,HX9.out⟩
  exact AllReadyH.nil
 exact AllReadyH.nil
end
def whoF(k:Int)(n:Nat):Nat:=(k%18446744073709551616).toNat%n
def ptrsC(n:Nat)(cb:Nat->Nat):List Value:=(List.range n).map λi=>.pointer (some ⟨cb i,0,none⟩)
theorem kW{n:Nat}(cb:Nat->Nat){i:Nat}(h:i<n):(ptrsC n cb)[i]?=some (.pointer (some ⟨cb i,0,none⟩)):=by
 unfold ptrsC;rw[List.getElem?_map,List.getElem?_range h];rfl
theorem Gs(g:FuncId)(a:Array Value)(W:World):(binOp .neq 140 (.func (.func g) a #[]) .nilFunc).run prog W=.ok (.bool true) W:=by first|rfl|kernel_rfl
theorem Fd(W:World):(binOp .neq 140 .nilFunc .nilFunc).run prog W=.ok (.bool false) W:=by first|rfl|kernel_rfl
section
variable{w:World}{fb n cc i d mb s:Nat}{ca:Option Addr}{pv ov lv:Value}{la:Option Nat}{cb:Nat->Nat}{k:Int}
theorem gE(h1:1<=n)(h8:n<=8)(hf:Blk w fb 4 (frC pv (.slice ca n cc) la lv))(hs:SlC w 1 (.slice ca n cc) n (ptrsC n cb))(hc:Blk w (cb (whoF k n)) 5 (clC i ov d mb (cb (whoF k n)) s)){g:FuncId}(hg:nxV (cb (whoF k n)) s=.func (.func g) #[.pointer (some ⟨cb (whoF k n),0,none⟩)] #[])(hO:Own g){Q:Bool->World->Prop}
  (HN:∀W,Fr NoF w W->Calls prog g #[.pointer (some ⟨cb (whoF k n),0,none⟩),.pointer (some ⟨fb,0,none⟩)] W λe w'=>∃r,e=.returned (.bool r)/\Q r w'):
  Calls prog 20 #[.pointer (some ⟨fb,0,none⟩),.int .i64 k] w λe w'=>∃r,e=.returned (.bool r)/\Q r w':=by
 have hwn:whoF k n<n:=Nat.mod_lt _ (by omega);obtain⟨b1,o1,c1,e1,-,-,hb1,g1⟩:=hs.at hwn (by omega);simp only[Value.slice.injEq]at e1;obtain⟨rfl,-,rfl⟩:=e1;have p0:=g1 _ _ (kW cb hwn);have c0:=hf.cell (i:=1) (by omega);have lf:=hf.lt;have c4:=hc.cell (i:=4) (by omega);have lc:=hc.lt;simp only[frC]at c0;simp only[clC]at c4;rw[hg]at c4;have ek:IntKind.u64.wrap k=((k%18446744073709551616).toNat:Int):=by simp[IntKind.wrap,IntKind.bits,IntKind.signed];omega
 have en:IntKind.u64.wrap (n:Int)=(n:Int):=by simp[IntKind.wrap,IntKind.bits,IntKind.signed];omega
 have em:Int.tmod ((k%18446744073709551616).toNat:Int) (n:Int)=((whoF k n:Nat):Int):=by
  rw[Int.tmod_eq_emod_of_nonneg (by omega)];unfold whoF;omega
 have n0:¬(n:Int)=0:=by omega
 have n0b:((n:Int)==0)=false:=by simpa using n0
 have n0N:¬n=0:=by omega
 have hwI:((whoF k n:Nat):Int)<(n:Int):=by omega
 generalize whoF k n=x at*;generalize(k%18446744073709551616).toNat=kz at*;have HX:=Hd HN;clear g1 hf hs hc HN hg;go_enter func20,ntmps20
 go_wp2_with fail
 go_quiet (fail)
 have c4:=((Fr.refl NoF w).drewN nq).cell (p:=⟨cb x,4,none⟩) lc id|>.trans c4
 have fq:=(Fr.refl NoF w).drewN nq;have HQ:=Hd (HX.out _ fq);clear fq;generalize w.drewN nq=w2 at*;have hne:=Gs g #[.pointer (some ⟨cb x,0,none⟩)] w2
 go_wp2_with fail
 rw[hO,Oper.upon_enter];refine HQ.out.mono ?_;rintro e w3⟨r,rfl,hq⟩;have HZ:=Hd hq;clear hq HQ hO;go_wp2;go_returns;exact⟨r,rfl,HZ.out⟩
theorem xa(h1:1<=n)(h8:n<=8)(hf:Blk w fb 4 (frC pv (.slice ca n cc) la lv))(hs:SlC w 1 (.slice ca n cc) n (ptrsC n cb))(hc:Blk w (cb (whoF k n)) 5 (clC i ov d mb (cb (whoF k n)) s))(hg:nxV (cb (whoF k n)) s=.nilFunc):
  Calls prog 20 #[.pointer (some ⟨fb,0,none⟩),.int .i64 k] w λe w'=>e=.returned (.bool false)/\Fr NoF w w':=by
 have hwn:whoF k n<n:=Nat.mod_lt _ (by omega);obtain⟨b1,o1,c1,e1,-,-,hb1,g1⟩:=hs.at hwn (by omega);simp only[Value.slice.injEq]at e1;obtain⟨rfl,-,rfl⟩:=e1;have p0:=g1 _ _ (kW cb hwn);have c0:=hf.cell (i:=1) (by omega);have lf:=hf.lt;have c4:=hc.cell (i:=4) (by omega);have lc:=hc.lt;simp only[frC]at c0;simp only[clC]at c4;rw[hg]at c4;have ek:IntKind.u64.wrap k=((k%18446744073709551616).toNat:Int):=by simp[IntKind.wrap,IntKind.bits,IntKind.signed];omega
 have en:IntKind.u64.wrap (n:Int)=(n:Int):=by simp[IntKind.wrap,IntKind.bits,IntKind.signed];omega
 have em:Int.tmod ((k%18446744073709551616).toNat:Int) (n:Int)=((whoF k n:Nat):Int):=by
  rw[Int.tmod_eq_emod_of_nonneg (by omega)];unfold whoF;omega
 have n0:¬(n:Int)=0:=by omega
 have n0b:((n:Int)==0)=false:=by simpa using n0
 have n0N:¬n=0:=by omega
 have hwI:((whoF k n:Nat):Int)<(n:Int):=by omega
 generalize whoF k n=x at*;generalize(k%18446744073709551616).toNat=kz at*;clear g1 hf hs hc hg;go_enter func20,ntmps20
 go_wp2_with fail
 go_quiet (fail)
 have c4:=((Fr.refl NoF w).drewN nq).cell (p:=⟨cb x,4,none⟩) lc id|>.trans c4
 have fq:=Hd ((Fr.refl NoF w).drewN nq);generalize w.drewN nq=w2 at*;have hne:=Fd w2;go_wp2;go_returns;exact⟨rfl,fq.out⟩
end
theorem sI{w:World}{fb:Nat}{pv cv lv:Value}(hf:Blk w fb 4 (frC pv cv none lv)):Calls prog 22 #[.pointer (some ⟨fb,0,none⟩)] w λe w'=>e=.returned (.int .i64 (-1))/\w=w':=by
 have c2:=hf.cell (i:=2) (by omega);have lf:=hf.lt;simp only[frC,Option.map_none]at c2;clear hf;go_enter func22,ntmps22;go_wp2;go_returns;exact⟨rfl,rfl⟩
theorem tt{w:World}{fb b i d mb s:Nat}{pv cv ov lv:Value}(hf:Blk w fb 4 (frC pv cv (some b) lv))(hc:Blk w b 5 (clC i ov d mb b s)):Calls prog 22 #[.pointer (some ⟨fb,0,none⟩)] w λe w'=>e=.returned (.int .i64 (i:Nat))/\w=w':=by
 have c2:=hf.cell (i:=2) (by omega);have lf:=hf.lt;have c0:=hc.cell (i:=0) (by omega);have lc:=hc.lt;simp only[frC,Option.map_some]at c2;simp only[clC]at c0;clear hf hc;go_enter func22,ntmps22;go_wp2;go_returns;exact⟨rfl,rfl⟩
end
section
open Go.Lib Go.Maps Go.Proofs.Tryz Go.RowKit Go.Shelf
open Go.Sort hiding Below
def Tryz.sortIn_ren:Go.Shelf.Ren:=⟨fun|6=>112|15=>128|14=>127|28=>141|29=>142|20=>133|21=>134|22=>135|23=>136|24=>137|25=>138|26=>139|27=>140|46=>144|47=>145|48=>146|49=>147|50=>148|57=>151|n=>n,fun|22=>24|24=>3|25=>233|3=>3|39=>247|0=>0|53=>42|55=>25|4=>4|46=>251|45=>250|50=>226|5=>5|9=>9|66=>256|70=>260|76=>263|77=>264|n=>n,fun|n=>n⟩
theorem Tryz.sortIn:Go.Proofs.SlLaysF.n6 prog Tryz.sortIn_ren:={
 mixed:=by kernel_rfl,
 f6:=⟨Tryz.f112.name,by decide,func112.trans (congrArg some (by kernel_rfl))⟩,
 f14:=⟨Tryz.f127.name,by decide,func127.trans (congrArg some (by kernel_rfl))⟩,
 f15:=func128.trans (congrArg some (by kernel_rfl)),
 f20:=⟨Tryz.f133.name,by decide,func133.trans (congrArg some (by kernel_rfl))⟩,
 f21:=⟨Tryz.f134.name,by decide,func134.trans (congrArg some (by kernel_rfl))⟩,
 f22:=⟨Tryz.f135.name,by decide,func135.trans (congrArg some (by kernel_rfl))⟩,
 f23:=⟨Tryz.f136.name,by decide,func136.trans (congrArg some (by kernel_rfl))⟩,
 f24:=⟨Tryz.f137.name,by decide,func137.trans (congrArg some (by kernel_rfl))⟩,
 f25:=⟨Tryz.f138.name,by decide,func138.trans (congrArg some (by kernel_rfl))⟩,
 f26:=⟨Tryz.f139.name,by decide,func139.trans (congrArg some (by kernel_rfl))⟩,
 f27:=⟨Tryz.f140.name,by decide,func140.trans (congrArg some (by kernel_rfl))⟩,
 f28:=func141.trans (congrArg some (by kernel_rfl)),
 f29:=func142.trans (congrArg some (by kernel_rfl)),
 f46:=⟨Tryz.f144.name,by decide,func144.trans (congrArg some (by kernel_rfl))⟩,
 f47:=func145.trans (congrArg some (by kernel_rfl)),
 f48:=func146.trans (congrArg some (by kernel_rfl)),
 f49:=⟨Tryz.f147.name,by decide,func147.trans (congrArg some (by kernel_rfl))⟩,
 f50:=⟨Tryz.f148.name,by decide,func148.trans (congrArg some (by kernel_rfl))⟩,
 f57:=⟨Tryz.f151.name,by decide,func151.trans (congrArg some (by kernel_rfl))⟩,
 t0:=underlying0,
 a0:=Tryz.isAgg0,
 z0:=Tryz.sizeOf0,
 v0:=Tryz.zeroValue0,
 t3:=underlying3,
 a3:=Tryz.isAgg3,
 z3:=Tryz.sizeOf3,
 v3:=Tryz.zeroValue3,
 t4:=underlying4,
 a4:=Tryz.isAgg4,
 z4:=Tryz.sizeOf4,
 v4:=Tryz.zeroValue4,
 t5:=underlying5,
 a5:=Tryz.isAgg5,
 z5:=Tryz.sizeOf5,
 v5:=Tryz.zeroValue5,
 t9:=underlying9,
 a9:=Tryz.isAgg9,
 z9:=Tryz.sizeOf9,
 v9:=Tryz.zeroValue9,
 t22:=underlying24,
 a22:=Tryz.isAgg24,
 z22:=Tryz.sizeOf24,
 v22:=Tryz.zeroValue24,
 a24:=Tryz.isAgg3,
 z24:=Tryz.sizeOf3,
 t25:=underlying233,
 a25:=Tryz.isAgg233,
 z25:=Tryz.sizeOf233,
 v25:=Tryz.zeroValue233,
 t39:=underlying247,
 a39:=Tryz.isAgg247,
 z39:=Tryz.sizeOf247,
 v39:=Tryz.zeroValue247,
 t45:=underlying250,
 a45:=Tryz.isAgg250,
 z45:=Tryz.sizeOf250,
 v45:=Tryz.zeroValue250,
 t46:=underlying251,
 a46:=Tryz.isAgg251,
 z46:=Tryz.sizeOf251,
 v46:=Tryz.zeroValue251,
 t50:=underlying226,
 a50:=Tryz.isAgg226,
 z50:=Tryz.sizeOf226,
 v50:=Tryz.zeroValue226,
 t53:=underlying42,
 a53:=Tryz.isAgg42,
 z53:=Tryz.sizeOf42,
 v53:=Tryz.zeroValue42,
 t55:=underlying25,
 a55:=Tryz.isAgg25,
 z55:=Tryz.sizeOf25,
 v55:=Tryz.zeroValue25,
 t66:=underlying256,
 a66:=Tryz.isAgg256,
 z66:=Tryz.sizeOf256,
 v66:=Tryz.zeroValue256,
 t70:=underlying260,
 a70:=Tryz.isAgg260,
 z70:=Tryz.sizeOf260,
 v70:=Tryz.zeroValue260,
 t76:=underlying263,
 a76:=Tryz.isAgg263,
 z76:=Tryz.sizeOf263,
 v76:=Tryz.zeroValue263,
 t77:=underlying264,
 a77:=Tryz.isAgg264,
 z77:=Tryz.sizeOf264,
 v77:=Tryz.zeroValue264}
def gP{n:Nat}:(l:List Nat)->(∀x∈l,x<n)->List (Fin n)
 |[],_=>[]
 |x::l,h=>⟨x,h x (List.mem_cons_self ..)⟩::gP l (λy hy=>h y (List.mem_cons_of_mem _ hy))
theorem i7{n:Nat}:∀(l:List Nat) (h:∀x∈l,x<n),(gP l h).map (λx=>x.val)=l
 |[],_=>rfl
 |x::l,h=>by
  show x::(gP l _).map _=x::l
  rw[i7 l]
theorem iZ{n:Nat}(l:List Nat)(h:∀x∈l,x<n):(gP l h).length=l.length:=by
 have:=congrArg List.length (i7 l h)
 rwa [List.length_map]at this
def fx{n:Nat}(x:Fin n):Value:=.int .i64 (x.val:Int)
theorem Id{n:Nat}:OneCell (fx (n:=n)):=λx=>rfl
section
variable{W W':World}{n:Nat}[Inhabited (Fin n)]
theorem mB{blk m:Nat}{d:Array (Fin n)}{os:Array Obj}:Fr (λi=>i=blk) W (sortWorld fx W blk 0 m d os):=by
 refine⟨rfl,rfl,rfl,?_,λk hk hF=>?_⟩
 .show W.heap.size<=((putRow fx (Go.Sort.ahead W m) blk 0 d).heap++os).size
  rw[Array.size_append];have:(putRow fx (Go.Sort.ahead W m) blk 0 d).heap.size=W.heap.size:=by simp[putRow,mapBlock,Go.Sort.ahead]
  omega
 .have hz:(putRow fx (Go.Sort.ahead W m) blk 0 d).heap.size=W.heap.size:=by simp[putRow,mapBlock,Go.Sort.ahead]
  have e1:(sortWorld fx W blk 0 m d os).heap[k]?=(putRow fx (Go.Sort.ahead W m) blk 0 d).heap[k]?:=by
   show((putRow fx (Go.Sort.ahead W m) blk 0 d).heap++os)[k]?=_
   rw[Array.getElem?_append_left (by omega)]
  rw[e1]
  show(W.heap.modify blk _)[k]?=_
  rw[Array.getElem?_modify,if_neg (λq=>hF q.symm)]
theorem E6{base g cap:Nat}{l:List Nat}(hmem:∀x∈l,x<n)(h:OwK .i64 base 3 W (.slice (some ⟨g,0,none⟩) l.length cap) l):Holds fx W g 0 (gP l hmem).toArray:=by
 intro j hj;have hs:(gP l hmem).toArray.size=l.length:=by rw[List.size_toArray,iZ]
 have hjl:j<l.length:=by omega
 obtain⟨hl,h2⟩:=h;rcases h2 with⟨h2,_⟩|⟨g',cap',cur,e,hg,hh,h3,h4,h5,h6⟩
 .cases h2
 .simp only[Value.slice.injEq,Option.some.injEq,Addr.mk.injEq]at e
  obtain⟨⟨rfl,_⟩,_,rfl⟩:=e
  have hc:cur[j]?=some (.int .i64 (l[j]:Nat)):=by
   have hq:(cur.toList.take (l.length*1))[j]?=some (.int .i64 (l[j]:Nat)):=by rw[h6];simp[hjl]
   rw[List.getElem?_take,if_pos (by omega)]at hq;simpa using hq
  have hv:fx ((gP l hmem).toArray[j]!)=.int .i64 (l[j]:Nat):=by
   rw[getElem!_pos (gP l hmem).toArray j hj];unfold fx;have e2:((gP l hmem).map (λx=>x.val))[j]?=l[j]?:=by rw[i7]
   have hj2:j<(gP l hmem).length:=by rw[iZ];exact hjl
   rw[List.getElem?_map,List.getElem?_eq_getElem hj2,List.getElem?_eq_getElem hjl]at e2;simp at e2;simp[e2]
  rw[hv];constructor
  .simp[World.cell?,hh,hc]
  .simp[World.frozen?,hh]
end
section
variable{p:PP}{f:Nat->FrS}
theorem ik(x y:Nat):cmpZ x y<0↔x<y:=by
 unfold cmpZ
 split
 .constructor
  .intro _;omega
  .intro _;omega
 .split
  .constructor
   .intro q;omega
   .intro q;omega
  .constructor
   .intro q;omega
   .intro q;omega
theorem Ht(n:Nat):SWO (ltOf λx y:Fin n=>cmpZ (f x.val).id (f y.val).id) where
 irrefl x:=by unfold ltOf;rw[decide_eq_false_iff_not,ik];omega
 trans x y z h1 h2:=by unfold ltOf at*;rw[decide_eq_true_eq,ik]at*;omega
 ntrans x y z h1 h2:=by unfold ltOf at*;rw[decide_eq_false_iff_not,ik]at*;omega
theorem Aq(bx base:Nat):oC p f bx base:=by
 intro W v l ho hbx hmem hll hb hbl hM hown htb;obtain⟨pl,E,I,sc,m,hM⟩:=hM;have hbase:=ho.base;have h0:=ho;obtain⟨hl,h2⟩:=ho;rcases h2 with⟨rfl,hz⟩|⟨g,cap,cur,rfl,hg,hh,h3,h4,h5,h6⟩
 .have hl0:l=[]:=List.length_eq_zero_iff.1 hz
  subst hl0;have hS:=AnyF.slices_SortFunc_none (P:=prog) (ρ:=Tryz.sortIn_ren) {Tryz.sortIn with} none 0 (.func (.func 113) #[] #[.pointer (some ⟨bx,0,none⟩)]) W;change Calls prog 112 _ _ _ at hS;refine hS.mono ?_;rintro e w'⟨rfl,rfl⟩;exact⟨rfl,[],List.Perm.refl _,λi j hi=>absurd hi (Nat.not_lt_zero i),SlK.nil _ _,Fr.refl _ _⟩
 .have hn:=hM.hn
  haveI:Inhabited (Fin p.n):=⟨⟨0,hn.1⟩⟩
  have hH:=E6 hmem h0;have hgl:=(World.ownsRow.lt h0 g rfl).2;have hgb:=hbase g rfl;have hsz:(gP l hmem).toArray.size=l.length:=by rw[List.size_toArray,iZ]
  have hcmp:CmpLays1 prog 113 #[.pointer (some ⟨bx,0,none⟩)] fx (λx y:Fin p.n=>cmpZ (f x.val).id (f y.val).id) g 0 (gP l hmem).toArray.size W:=by
   intro k os dk hdk x y;have fs:Fr (λi=>i=g) W (sortWorld fx W g 0 k dk os):=mB;have hM2:=hM.fro fs (λi q e=>by have:=hown i q;omega) (λe=>by have h9:0=g:=e;omega);have hb2:(sortWorld fx W g 0 k dk os).cell? ⟨bx,0,none⟩=some p.ptr:=by rw[fs.cell (p:=⟨bx,0,none⟩) hbl (by show¬bx=g;omega)];exact hb
   refine(sD hM2 x.isLt y.isLt hb2 (Nat.lt_of_lt_of_le hbl fs.size)).mono ?_;rintro e w'⟨he,q,rfl⟩;exact⟨he,q,#[],by rw[grow_empty]⟩
  have hS:=Any.slices_SortFunc Tryz.sortIn fx Id (λx y:Fin p.n=>cmpZ (f x.val).id (f y.val).id) (Ht p.n) 113 #[.pointer (some ⟨bx,0,none⟩)] g 0 cap (gP l hmem).toArray W (enters_of func113 (by kernel_rfl) rfl) hcmp hH hgl (by omega);rw[hsz]at hS;change Calls prog 112 _ _ _ at hS;refine hS.mono ?_;rintro e w'⟨rfl,d',k,os,⟨p1,p2,p3⟩,hsd,rfl⟩;have hs':d'.size=l.length:=by rw[p1,hsz]
  have hH':=holds_sortWorld fx W g 0 k (gP l hmem).toArray d' os hgl hH p1;have e1:(d'.extract 0 l.length).toList=d'.toList:=by rw[<-hs'];simp
  have e2:((gP l hmem).toArray.extract 0 l.length).toList=gP l hmem:=by
   have:=iZ l hmem;simp[List.take_of_length_le,this]
  rw[e1,e2]at p3
  have hp:(d'.toList.map (λx=>x.val)).Perm l:=by
   have:=p3.map (λx=>x.val)
   rwa [i7]at this
  have hlen:(d'.toList.map (λx=>x.val)).length=l.length:=hp.length_eq
  have hat:∀i (hi:i<(d'.toList.map (λx=>x.val)).length),(d'.toList.map (λx=>x.val))[i]=(d'[i]!).val:=λi hi=>by
   rw[getElem!_pos d' i (by rw[hs'];omega)];simp
  refine⟨rfl,_,hp,λi j hi hj hij=>?_,?_,mB.mono (λi q=>by rw[q];rfl)⟩
  .have:=hsd i j (Nat.zero_le _) hij (by omega)
   unfold ltOf at this;rw[decide_eq_false_iff_not,ik]at this;rw[hat i hi,hat j hj];exact this
  .refine⟨some ⟨g,0,none⟩,cap,by rw[hlen],by simp[hs'],λu hu=>?_,by rw[hlen];exact h3,h4,.inr ⟨g,0,rfl,Nat.lt_of_lt_of_le hgl mB.size,λj u hj=>?_⟩⟩
   .obtain⟨y,_,rfl⟩:=List.mem_map.1 hu
    rfl
   .have hjl:j<d'.size:=by
     have:=(List.getElem?_eq_some_iff.1 hj).1;simpa using this
    rw[(hH' j hjl).1];simp[hjl]at hj;rw[<-hj];unfold fx;rw[getElem!_pos d' j hjl]
end
end
section
open Go.Maps Go.Proofs.Tryz Go.RowKit
section
variable{p:PP}{q:Bool}{M:AM}{m:Nat}{w:World}{F:Nat->Prop}
def B8(p:PP)(q:Bool)(M:AM)(m:Nat)(w:World)(F:Nat->Prop):Prop:=
 ∃(τ:Type) (P:Adv τ) (RR:World->τ->(Nat->Prop)->Prop) (ok:Nat->τ->(Nat->Nat)->(Nat->Bool)->Prop) (X:PS τ),aJ P RR p.pb p.rv p.n ok/\PW RR ok p X m w F/\Abs p.n X M/\M.okA/\(q=true->X.sc=0/\mw P p.n ok)/\∀i,i<p.n->(X.f i).dirty=false
theorem B8.any(h:B8 p q M m w F):aq p q M m w F:=by
 obtain⟨τ,P,RR,ok,X,S,H,A,O,K,_⟩:=h;exact⟨τ,P,RR,ok,X,S,H,A,O,K⟩
theorem aq.fa(h:aq p q M m w F)(hm:m<60000)(hn:p.n<=64):Calls prog 48 #[p.ptr] w λe w'=>e=.returned (.int .i64 0)/\Led (B8 p q M (m+100)) F w w':=by
 obtain⟨τ,P,RR,ok,X,S,H,A,O,K⟩:=h;refine(Bb S H hm hn (Aq _ _)).mono ?_;rintro e w'⟨l,hp,_,he,hl⟩
 obtain⟨r1,r2,r3,r4⟩:=A.flushLE l (λk hk=>by
  obtain⟨k1,k2⟩:=iX.1 (hp.mem_iff.1 hk);refine⟨k1,λh0=>?_⟩;rw[A.inv.em k k1 h0]at k2
  cases k2)
 refine⟨by rw[he,r1];rfl,hl.mono (λF' h'=>⟨τ,P,RR,ok,_,S,h',r2,O,λhq=>⟨by rw[xL];exact(K hq).1,(K hq).2⟩,λi hi=>?_⟩)⟩
 cases e2:((X.flushL l).2.f i).dirty with
 |false=>rfl
 |true=>
  obtain⟨c1,c2⟩:=r4 i e2;exact(c2 (hp.mem_iff.2 (iX.2 ⟨hi,c1⟩))).elim
end
section
variable{p:PP}{q:Bool}{M:AM}{m:Nat}{w:World}{F:Nat->Prop}{o:OpF}
theorem mO(h:aq p q M m w F)(hm:m<59000)(hn:p.n<=64)(ho:o.ok)(ht:0<w.heap.size)(hk:o.k=6):
  Calls prog 12 #[p.ptr,o.val] w λe w'=>e=.returned (⟨0,0,0⟩:AnF).val/\Led (aq p q M (m+100)) F w w':=by
 obtain⟨k,pg,v⟩:=o;obtain⟨_,rfl,hA,b0,ke⟩:=b8 h ht k pg v;unfold OpF.val;simp only at hk;have KE:=Hd ke;have HA:=Hd hA;have B0:=Hd b0;have hid0:=ho.1;have hv0:=ho.2.1;clear h b0 hA ho ke;go_enter func12,ntmps12;subst hk
 go_wp2_with fail
 refine(HA.out.fa (by omega) hn).mono ?_;rintro e w1⟨rfl,hl1⟩;obtain⟨c1,c2,c3⟩:=KE.out _ _ w1 (hl1.mono (λF' h'=>B8.any h'));have HR:=Hd ((((c1.other (a:=⟨w.heap.size+1+1,0,none⟩) (by simp) (.int .i64 0)).set 0 (.int .i64 0)).set 1 (.int .u32 0)).set 2 (.int .u64 0));have HL:=Hd (c3 ((((w1.setCell ⟨w.heap.size+1+1,0,none⟩ (.int .i64 0)).setCell ⟨w.heap.size+1,0,none⟩ (.int .i64 0)).setCell ⟨w.heap.size+1,1,none⟩ (.int .u32 0)).setCell ⟨w.heap.size+1,2,none⟩ (.int .u64 0)) (by repeat(first|exact Fr.refl _ _|refine Fr.setCell ?_ (.inl (by first|exact .inl rfl|exact .inr rfl)) _)));obtain⟨a0,a1,a2,d0,d1,d2,z0,z1,z2,y0,y1,y2,l1,l2⟩:=bc c1 c2;clear c1 c2 c3 hl1
 go_wp2_with fail
 (try simp only[Exit.inBlock,Exit.then])
 refine bodyPost_ret (au Tryz.results12 _ _ HR.out rfl underlying47 rfl (by kernel_rfl)) rfl ?_;exact⟨rfl,HL.out⟩
end
end
end Go.Proofs.YtkjhnllcphidpaaGreatDoor
