import Derived.Test.YtlonjggfnleolaaGreatDoorRefA
import Derived.ArgAppend
import Derived.Maps.AppendAt
namespace Go.Proofs.YtlonjggfnleolaaGreatDoor
open Go.RowKit
set_option linter.unusedVariables false
variable {w:World}{lo e size n:Nat}{v:Value}{xs:List Value}
def Row (w:World)(lo e size:Nat)(v:Value)(n:Nat)(xs:List Value):Prop:=
 xs.length=n*size∧((v= .slice none 0 0∧n=0)∨∃g cap cur,v= .slice (some ⟨g,0,none⟩) n cap∧lo≤g∧w.heap[g]?=some (.cells cur e (0,0))∧n≤cap∧cur.size=cap*size∧cur.toList.take (n*size)=xs)
theorem Row.of_own (h:w.ownsRow lo e size v n xs):Row w lo e size v n xs:=by
 obtain⟨h1,h2|⟨g,cap,cur,a,b,c,d,_,f,k⟩⟩:=h
 ·exact⟨h1,.inl h2⟩
 ·exact⟨h1,.inr ⟨g,cap,cur,a,b,c,d,f,k⟩⟩
theorem Row.form (h:Row w lo e size v n xs):∃a c,v= .slice a n c:=by
 obtain⟨h1,⟨rfl,rfl⟩|⟨g,cap,cur,rfl,_⟩⟩:=h
 ·exact⟨_,_,rfl⟩
 ·exact⟨_,_,rfl⟩
end Go.Proofs.YtlonjggfnleolaaGreatDoor
