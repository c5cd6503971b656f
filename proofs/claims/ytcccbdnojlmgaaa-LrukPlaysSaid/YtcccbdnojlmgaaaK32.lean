/- Part 32. -/
import Derived.Test.YtcccbdnojlmgaaaK23
namespace Go.Proofs.Ytcccbdnojlmgaaa
set_option linter.all false
set_option maxHeartbeats 16000000
set_option maxRecDepth 100000
section
open Go.RowKit
def ArgP(w:World)(v:Value)(ops:List (Nat×Nat)):Prop:=
 SlC w 2 v ops.length (ops.flatMap fun o=>[.int .i64 o.1,.int .u32 o.2])
theorem ops_get:∀{ops:List (Nat×Nat)} {i:Nat} {o:Nat×Nat},ops[i]?=some o->(ops.flatMap fun o=>[Value.int .i64 o.1,Value.int .u32 o.2])[i*2]?=some (.int .i64 o.1)∧(ops.flatMap fun o=>[Value.int .i64 o.1,Value.int .u32 o.2])[i*2+1]?=some (.int .u32 o.2)
 |a::ops,0,o,h=>by simp at h;subst h;simp
 |a::ops,i+1,o,h=>by
  have:=ops_get (ops:=ops) (i:=i) (o:=o) (by simpa using h);simp only[List.flatMap_cons,show(i+1)*2=i*2+1+1 from by omega];exact this
 |[],_,_,h=>by simp at h
theorem set_same{fr:List Nat}{a x:Nat}(h:fr[a]?=some x):fr.set a x=fr:=by
 apply List.ext_getElem?;intro i;rw[List.getElem?_set];by_cases e:a=i
 .subst e;rw[if_pos rfl,if_pos (List.getElem?_eq_some_iff.1 h).1,h]
 .rw[if_neg e]
end
end Go.Proofs.Ytcccbdnojlmgaaa
