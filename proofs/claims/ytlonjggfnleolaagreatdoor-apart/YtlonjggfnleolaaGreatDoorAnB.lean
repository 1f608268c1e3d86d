import Derived.Test.YtlonjggfnleolaaGreatDoorAnJ
namespace Go.Proofs.YtlonjggfnleolaaGreatDoor
open Go.RowKit Go.Shelf
set_option linter.unusedVariables false
set_option maxHeartbeats 2000000
set_option maxRecDepth 100000
def downB:ByteArray:=⟨#[100,111,119,110]⟩
def refusedB:ByteArray:=⟨#[114,101,102,117,115,101,100]⟩
def ansOf (k:Int)(fa re y0:Bool)(yv vv:Value):Value:=
 if fa then ansV 5 (.slice none 0 0) (.slice none 0 0) downB else if re then ansV 5 (.slice none 0 0) (.slice none 0 0) refusedB
 else if k=1 then ansV 1 yv vv ⟨#[]⟩else if k=2 then ansV 2 (.slice none 0 0) (.slice none 0 0) ⟨#[]⟩
 else if y0 then ansV 3 (.slice none 0 0) (.slice none 0 0) ⟨#[]⟩else ansV 4 (.slice none 0 0) (.slice none 0 0) ⟨#[]⟩
theorem qanswer_any (q yb kn:Nat)(k:Int)(kv:Value)(val wd:ByteArray)(ft:Bool)(id n:Int)(fa re y0:Bool)(vv:Value)(w:World)(h:w.heap[q]?=some (quO k kv val wd ft id n fa re (.slice (some ⟨yb,0,none⟩) kn kn) vv))(hv:∃va vn vc,vv= .slice va vn vc)(hk:k=1∨k=2∨k=3)(hkn:0<kn)(hkm:kn≤1000)(hy:w.cell? ⟨yb,0,none⟩=some (.bool y0)):Calls Tryz.prog 129 #[.pointer (some ⟨q,0,none⟩)] w fun e w'=>e= .returned (ansOf k fa re y0 (.slice (some ⟨yb,0,none⟩) kn kn) vv)∧Below w.heap.size w w':=by
 obtain⟨va,vn,vc,rfl⟩:=hv;obtain⟨c0,_,c7,c8,c9,c10,_⟩:=quCells h;have hlt:=blkLt h;have hly:yb<w.heap.size:=World.block_lt_of_cell? w ⟨yb,0,none⟩ hy;have HB:Hid (∀x,Below w.heap.size w (w.alloc x)):=fun x=>(Below.refl _ _).alloc (Nat.le_refl _) x
 have hn1:¬q=w.heap.size:=by omega
 have hn2:¬yb=w.heap.size:=by omega
 have hkn':(0:Int)<(kn:Int):=by omega
 unfold ansOf ansV downB refusedB;clear h;rcases hk with rfl|rfl|rfl;all_goals cases fa
 all_goals cases re
 all_goals cases y0
 all_goals
  go_enter Tryz.func129,Tryz.ntmps129
  go_wp2
  first
   |go_region
    go_wp2
   |skip
  refine bodyPost_ret (v:=_) (by simp[results,Tryz.results129,go_sem];rfl) rfl ⟨by simp,?_⟩
  first|exact HB.out _|exact(HB.out _).drew
end Go.Proofs.YtlonjggfnleolaaGreatDoor
