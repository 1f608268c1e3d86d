import Derived.Test.YtlonjggfnleolaaGreatDoorInbox
namespace Go.Proofs.YtlonjggfnleolaaGreatDoor
open Go.RowKit
set_option linter.unusedVariables false
set_option maxHeartbeats 2000000
set_option maxRecDepth 20000
def nilWalk (sh:Bool):Obj:= .cells #[.slice none 0 0,.int .i64 0,.bool false,.bool sh] 326 (0,0)
theorem next_nil (w:World)(B:Nat)(sh:Bool)(hB:w.heap[B]?=some (nilWalk sh)):Calls Tryz.prog 258 #[.pointer (some ⟨B,0,none⟩)] w fun e w'=>e= .returned (.tuple #[.int .u8 0,.bool false])∧w'.heap[B]?=some (nilWalk true)∧Only B w w':=by
 have HB:=hide' hB;unfold nilWalk at hB;have c0:=blkCell hB 0;have c1:=blkCell hB 1;have c2:=blkCell hB 2;have c3:=blkCell hB 3;have cf:=blkFree hB;clear hB;simp at c0 c1 c2 c3;have d3:(w.setCell ⟨B,3,none⟩ (.bool true)).cell? ⟨B,3,none⟩=some (.bool true):=World.cell?_setCell_same' _ _ _ (by rw[c3];rfl);cases sh with
 |false=>
  go_enter Tryz.func258,Tryz.ntmps258;go_wp2;go_region
  go_wp2;go_ret2;refine⟨rfl,?_,((Only.refl B w).setCell rfl _).drew⟩;exact blkSet (i:=3) HB.out (.bool true)
 |true=>
  go_enter Tryz.func258,Tryz.ntmps258;go_wp2;go_region
  go_wp2;go_ret2;refine⟨rfl,?_,((Only.refl B w).setCell rfl _).drew⟩;exact blkSet (i:=3) HB.out (.bool true)
theorem expect_nil (w:World)(B:Nat)(sh:Bool)(b:Int)(hB:w.heap[B]?=some (nilWalk sh)):Calls Tryz.prog 253 #[.pointer (some ⟨B,0,none⟩),.int .u8 b] w fun e w'=>e= .returned (.tuple #[])∧w'.heap[B]?=some (nilWalk true)∧Only B w w':=by
 go_enter Tryz.func253,Tryz.ntmps253;go_wp2_with fail
 go_at_call 258;refine(next_nil w B sh hB).mono ?_;rintro e w1 ⟨rfl,h1,O1⟩;go_wp2;refine bodyPost_ret (results_none rfl _ _ _) rfl ?_;exact⟨rfl,h1,O1⟩
theorem count_nil (w:World)(B:Nat)(sh:Bool)(lo hi:Int)(hB:w.heap[B]?=some (nilWalk sh)):Calls Tryz.prog 254 #[.pointer (some ⟨B,0,none⟩),.int .i64 lo,.int .i64 hi] w fun e w'=>e= .returned (.int .i64 0)∧w'.heap[B]?=some (nilWalk true)∧Only B w w':=by
 go_enter Tryz.func254,Tryz.ntmps254;go_wp2;refine wp_loop_rounds 1 ?_;rw[rounds_succ];go_wp2_with fail
 go_at_call 258;refine(next_nil w B sh hB).mono ?_;rintro e w1 ⟨rfl,h1,O1⟩;go_wp2;go_ret;exact⟨rfl,h1,O1⟩
def zStepV:Value:= .agg #[.int .i64 0,.slice none 0 0,.string ⟨#[]⟩,.string ⟨#[]⟩,.bool false,.int .i64 0,.int .i64 0,.bool false]
theorem read_nil (w:World):Calls Tryz.prog 251 #[.agg #[],.slice none 0 0] w fun e w'=>e= .returned zStepV∧Below w.heap.size w w':=by
 have hmk:=hmk;go_enter Tryz.func251,Tryz.ntmps251;go_wp2_with fail
 go_at_call 253;have hb0:=blkNew ((w.alloc (Obj.cells #[] 162)).alloc (Obj.cells zStep 255)) (nilWalk false);rw[World.size_alloc,World.size_alloc]at hb0;refine(expect_nil _ _ false 42 hb0).mono ?_;rintro e w1 ⟨rfl,h1,O1⟩;have hs1:=O1.size;simp at hs1;have hR1:w1.heap[w.heap.size+1]?=some (.cells zStep 255 (0,0)):=by
  rw[O1.block _ (by omega),Below.heap_alloc _ _ _ (by simp)];have:=blkNew (w.alloc (.cells #[] 162)) (.cells zStep 255 (0,0));rw[World.size_alloc]at this;exact this
 have hBel1:Below w.heap.size w w1:=((((Below.refl _ _).alloc (Nat.le_refl _) _).alloc (by simp) _).alloc (by simp;omega) _).trans (O1.below.mono (by omega));clear O1 hb0;go_wp2_with fail
 go_at_call 254;refine(count_nil _ _ true 1 5 h1).mono ?_;rintro e w2 ⟨rfl,h2,O2⟩;have hs2:=O2.size;have hR2:=(O2.block (w.heap.size+1) (by omega)).trans hR1;have hBel2:=hBel1.trans (O2.below.mono (by omega));clear O2 hR1 h1 hBel1;have hsz:w2.heap.size=w.heap.size+3:=by omega
 go_wp2;generalize hW3:w2.alloc (Obj.cells #[Value.string {data:=#[]},Value.string {data:=#[]},Value.string {data:=#[]},Value.string {data:=#[]},Value.string {data:=#[]}] 9)=w3;have h3:w3.heap[w.heap.size+1+1]?=some (nilWalk true):=by rw[←hW3];exact(Below.heap_alloc w2 _ _ (by omega)).trans h2
 have hR3:w3.heap[w.heap.size+1]?=some (.cells zStep 255 (0,0)):=by rw[←hW3];exact(Below.heap_alloc w2 _ _ (by omega)).trans hR2
 have hBel3:Below w.heap.size w w3:=by rw[←hW3];exact hBel2.alloc hBel2.size _
 clear hW3 h2 hR2 hBel2 hs2 hsz hs1;clear w2;clear w1;refine wp_loop_rounds 1 ?_;rw[rounds_succ];unfold nilWalk at h3;have e2:=blkCell h3 2;have e3:=blkCell h3 3;have r0:=blkCell hR3 0;have r1:=blkCell hR3 1;have r2:=blkCell hR3 2;have r3:=blkCell hR3 3;have r4:=blkCell hR3 4;have r5:=blkCell hR3 5;have r6:=blkCell hR3 6;have r7:=blkCell hR3 7;have rf:=blkFree hR3;have HR:=hide' hR3;clear hR3 h3;simp at e2 e3;simp[zStep]at r0 r1 r2 r3 r4 r5 r6 r7;go_wp2;refine bodyPost_ret (v:=zStepV) (by simp[results,Tryz.results251,go_sem,zStepV,r0,r1,r2,r3,r4,r5,r6,r7]) rfl ⟨rfl,?_⟩;have hle:w.heap.size≤w.heap.size+1:=by omega
 exact(((((((hBel3.setCell (p:=⟨w.heap.size+1,0,none⟩) hle _).setCell (p:=⟨w.heap.size+1,1,none⟩) hle _).setCell (p:=⟨w.heap.size+1,2,none⟩) hle _).setCell (p:=⟨w.heap.size+1,3,none⟩) hle _).setCell (p:=⟨w.heap.size+1,4,none⟩) hle _).setCell (p:=⟨w.heap.size+1,5,none⟩) hle _).setCell (p:=⟨w.heap.size+1,6,none⟩) hle _).setCell (p:=⟨w.heap.size+1,7,none⟩) hle _
end Go.Proofs.YtlonjggfnleolaaGreatDoor
