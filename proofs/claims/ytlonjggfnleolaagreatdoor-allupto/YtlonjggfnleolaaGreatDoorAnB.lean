import Derived.Test.YtlonjggfnleolaaGreatDoorAnA
namespace Go.Proofs.YtlonjggfnleolaaGreatDoor
open Go.RowKit Go.Shelf Go.Proofs.Tryz
set_option linter.unusedVariables false
set_option maxHeartbeats 2000000
set_option maxRecDepth 100000
def Qk:ByteArray:=⟨#[100,111,119,110]⟩
def qt:ByteArray:=⟨#[114,101,102,117,115,101,100]⟩
def Cj (k:Int)(a b c:Bool)(d e:Value):Value:=
 if a then eW 5 (.slice none 0 0) (.slice none 0 0) Qk else if b then eW 5 (.slice none 0 0) (.slice none 0 0) qt
 else if k=1 then eW 1 d e ⟨#[]⟩else if k=2 then eW 2 (.slice none 0 0) (.slice none 0 0) ⟨#[]⟩
 else if c then eW 3 (.slice none 0 0) (.slice none 0 0) ⟨#[]⟩else eW 4 (.slice none 0 0) (.slice none 0 0) ⟨#[]⟩
theorem Dc (q b a:Nat)(k:Int)(p:Value)(c r:ByteArray)(s:Bool)(id n:Int)(d f g:Bool)(i:Value)(w:World)(h:w.heap[q]?=some (sx k p c r s id n d f (.slice (some ⟨b,0,none⟩) a a) i))(t:∃j l m,i= .slice j l m)(u:k=1\/k=2\/k=3)(v:0<a)(y:a<=1000)(z:w.cell? ⟨b,0,none⟩=some (.bool g)):Calls prog 129 #[.pointer (some ⟨q,0,none⟩)] w fun e w'=>e= .returned (Cj k d f g (.slice (some ⟨b,0,none⟩) a a) i)/\Below w.heap.size w w':=by
 obtain⟨j,l,m,rfl⟩:=t;obtain⟨D,_,E,F,H,A,_⟩:=xF h;have B:=cA h;have C:b<w.heap.size:=ey w ⟨b,0,none⟩ z;have o:Hid (∀x,Below w.heap.size w (w.alloc x)):=fun x=>(ct _ _).alloc (PC _) x
 unfold Cj eW Qk qt;clear h;rcases u with rfl|rfl|rfl;all_goals cases d
 all_goals cases f
 all_goals cases g
 all_goals
  go_wp2
  first
   |go_region
    go_wp2
   |skip
  refine cE (v:=_) (by simp[results,results129,go_sem];rfl) rfl ⟨by simp,?_⟩
  first|exact o.out _|exact(o.out _).drew
end Go.Proofs.YtlonjggfnleolaaGreatDoor
