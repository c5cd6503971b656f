/- Part 17. -/
import Derived.Test.YtpkbkhffglikhaaGreatDoorM12
import Derived.Test.YtpkbkhffglikhaaGreatDoorM16
namespace Go.Proofs.YtpkbkhffglikhaaGreatDoor
set_option linter.all false
set_option maxHeartbeats 16000000
set_option maxRecDepth 100000
section
open Go.RowKit
abbrev LT:=List Nat×(Nat->Bool)
def lruRem(t:LT)(f:Nat):LT:=(awayL t.1 f,setL t.1 t.2 f false)
def lruPol:Pol LT where
 miss t _:=t
 access t f _:=(backL t.1 f,t.2)
 set t f v:=(t.1,setL t.1 t.2 f v)
 victim t _:=firstL t.1 t.2
 gone t _:=match firstL t.1 t.2 with|none=>t|some f=>lruRem t f
 remove t f:=lruRem t f
 size t:=cntL t.1 t.2
 ghosts _:=[]
def lruPre(n:Nat)(_:LT)(c:Cl):Prop:=(c.kind=1\/c.kind=2\/c.kind=4)->c.frame<n
def lruCR(b n:Nat)(w:World)(t:LT)(F:Nat->Prop):Prop:=LRu w b n t.1 t.2 F
theorem lru_cod(b n:Nat):CodG lruPol (lruCR b n) b (lruPre n) 135 133 137 139 136 where
 fr:=by
  intro w w' s F G h f hd;exact LRu.fr h f hd
 lt:=by
  intro w s F h;exact LRu.lt h
 miss:=by
  intro w s F c h hp hk;exact(lru_miss _ _).mono λe w' ⟨he,hw⟩=>⟨he,F,hw▸h,hw▸Fr.refl _ _,λi hi=>.inl hi⟩
 access:=by
  intro w s F c h hp hk;exact(lru_access h c.frame (hp (.inl hk)) _).mono λe w' ⟨he,h',hf⟩=>⟨he,F,h',hf,λi hi=>.inl hi⟩
 set:=by
  intro w s F c h hp hk;exact(lru_set h c.frame (hp (.inr (.inl hk))) c.on).mono λe w' ⟨he,h',hf⟩=>⟨he,F,h',hf,λi hi=>.inl hi⟩
 victimNo:=by
  intro w s F c h hp hk hv
  have h0:cntL s.1 s.2=0:=by
   rcases Nat.eq_zero_or_pos (cntL s.1 s.2)with q|q
   .exact q
   .obtain⟨f,j,e,_⟩:=firstL_some q
    have hv:firstL s.1 s.2=none:=hv;rw[e]at hv;cases hv
  exact(lru_victim_no h _ h0).mono λe w' ⟨he,hw⟩=>⟨he,F,hw▸h,hw▸Fr.refl _ _,λi hi=>.inl hi⟩
 victimYes:=by
  intro w s F c a h hp hk hv;have hv:firstL s.1 s.2=some a:=hv;have hg:lruPol.gone s c.page=lruRem s a:=by show(match firstL s.1 s.2 with|none=>s|some f=>lruRem s f)=_;rw[hv]
  rw[hg];exact(lru_victim_yes h _ a hv).mono λe w' ⟨he,h',hf⟩=>⟨he,F,h',hf,λi hi=>.inl hi⟩
 remove:=by
  intro w s F c h hp hk;exact(lru_remove h c.frame (hp (.inr (.inr hk)))).mono λe w' ⟨he,h',hf⟩=>⟨he,F,h',hf,λi hi=>.inl hi⟩
end
end Go.Proofs.YtpkbkhffglikhaaGreatDoor
