import Derived.Test.YtlonjggfnleolaaGreatDoorReadEx
import Derived.Deep.RegionHeld3
namespace Go.Proofs.YtlonjggfnleolaaGreatDoor
open Go.RowKit
set_option linter.unusedVariables false
set_option maxHeartbeats 1000000
set_option maxRecDepth 20000
variable {D:Nat}{a w w':World}
structure Turn (D:Nat)(w w':World):Prop where
 os:w'.os=w.os
 tape:w'.tape=w.tape
 output:w'.output=w.output
 size:w.heap.size≤w'.heap.size
 block:∀k,k<w.heap.size→k≠D→w'.heap[k]?=w.heap[k]?
theorem Turn.refl (D:Nat)(w:World):Turn D w w:=⟨rfl,rfl,rfl,Nat.le_refl _,fun _ _ _=>rfl⟩
theorem Turn.trans {b c:World}(h:Turn D a b)(k:Turn D b c):Turn D a c:=
 ⟨k.os.trans h.os,k.tape.trans h.tape,k.output.trans h.output,Nat.le_trans h.size k.size,fun i hi hn=>(k.block i (Nat.lt_of_lt_of_le hi h.size) hn).trans (h.block i hi hn)⟩
theorem Turn.of_below (h:Below w.heap.size w w'):Turn D w w':=⟨h.os,h.tape,h.output,h.size,fun k hk _=>h.block k hk⟩
theorem Turn.drew (h:Turn D a w):Turn D a w.drew:=⟨h.os,h.tape,h.output,h.size,h.block⟩
theorem Turn.drewN (h:Turn D a w)(n:Nat):Turn D a (w.drewN n):=⟨h.os,h.tape,h.output,h.size,h.block⟩
theorem Turn.alloc (h:Turn D a w)(o:Obj):Turn D a (w.alloc o):=h.trans (.of_below ((Below.refl _ _).alloc (Nat.le_refl _) o))
theorem Turn.setCell (h:Turn D a w)(i:Nat)(v:Value):Turn D a (w.setCell ⟨D,i,none⟩ v):=
 h.trans ⟨by simp[World.setCell],by simp[World.setCell],by simp[World.setCell],by simp,fun k _ hn=>Below.heap_setCell w ⟨D,i,none⟩ v k hn⟩
theorem Turn.below {B:Nat}(h:Turn D w w')(hB:B≤D)(hB2:B≤w.heap.size):Below B w w':=⟨h.os,h.tape,h.output,h.size,fun k hk=>h.block k (by omega) (by omega)⟩
theorem Turn.cell (h:Turn D w w'){p:Addr}(hp:p.block<w.heap.size)(hn:p.block≠D):w'.cell? p=w.cell? p:=World.cell?_of_block (w:=w) (h.block p.block hp hn)
def rd3 (held:Value)(used:Int):Obj:= .cells #[.iface 162 (.agg #[]),held,.int .i64 used,.bool false,.bool false] 134 (0,0)
theorem cap15 (a:Nat):15≤(Question.appendCap 15 0 5).cut a:=by
 exact Nat.le_add_right _ _
theorem take_ex (D:Nat)(w:World)(hD:w.heap[D]?=some (rd3 (.slice none 0 0) 0)):Calls Tryz.prog 58 #[.pointer (some ⟨D,1,none⟩),.string ⟨#[42,50,10,36,51,10,103,101,116,10,36,49,10,97,10]⟩] w fun e w'=>e= .returned (.tuple #[])∧(∃c,15≤c∧w'.heap[D]?=some (rd3 (.slice (some ⟨w.heap.size,0,none⟩) 15 c) 0))∧w.heap.size<w'.heap.size∧(∀(i:Nat) (b:UInt8),exL[i]?=some b→w'.cell? ⟨w.heap.size,0+i,none⟩=some (.int .u8 (b.toNat:Int)))∧Turn D w w':=by
 unfold rd3 at hD;have d0:=blkCell hD 0;have d1:=blkCell hD 1;have d2:=blkCell hD 2;have d3:=blkCell hD 3;have d4:=blkCell hD 4;have df:=blkFree hD;have hlt:=blkLt hD;have HD:=hide' hD;clear hD;simp at d0 d1 d2 d3 d4;go_enter Tryz.func58,Tryz.ntmps58;go_wp2;generalize hC:(Question.appendCap 15 0 5).cut (w.tape w.drawn (Question.appendCap 15 0 5))=C;have hC15:15≤C:=by rw[←hC];exact cap15 _
 clear hC;generalize hZ:(#[Value.int IntKind.u8 42,Value.int IntKind.u8 50,Value.int IntKind.u8 10,Value.int IntKind.u8 36,Value.int IntKind.u8 51,Value.int IntKind.u8 10,Value.int IntKind.u8 103,Value.int IntKind.u8 101,Value.int IntKind.u8 116,Value.int IntKind.u8 10,Value.int IntKind.u8 36,Value.int IntKind.u8 49,Value.int IntKind.u8 10,Value.int IntKind.u8 97,Value.int IntKind.u8 10]++Builtin.zeroCells #[Value.int IntKind.u8 0] (C-15))=Z;go_end0;refine⟨rfl,⟨C,hC15,?_⟩,by simp,fun i b hi=>?_,(((Turn.refl D w).setCell 1 _).alloc _).drew⟩
 ·have e1:=blkSet (i:=1) HD.out (.slice (some ⟨w.heap.size,0,none⟩) 15 C);have e2:=(Below.heap_alloc (w.setCell ⟨D,1,none⟩ (.slice (some ⟨w.heap.size,0,none⟩) 15 C)) (.cells Z 5) D (by simpa using hlt)).trans e1;exact e2
 ·have e1:((w.setCell ⟨D,1,none⟩ (.slice (some ⟨w.heap.size,0,none⟩) 15 C)).alloc (.cells Z 5)).drew.heap[w.heap.size]?=some (.cells Z 5):=by
   have:=blkNew (w.setCell ⟨D,1,none⟩ (.slice (some ⟨w.heap.size,0,none⟩) 15 C)) (.cells Z 5);rw[show(w.setCell ⟨D,1,none⟩ (.slice (some ⟨w.heap.size,0,none⟩) 15 C)).heap.size=w.heap.size by simp]at this;exact this
  rw[blkCell e1,←hZ,Nat.zero_add];have hi15:i<15:=get_lt hi;rw[Array.getElem?_append_left (by simpa using hi15)];have key:∀i,i<15→∀b,exL[i]?=some b→(#[Value.int IntKind.u8 42,Value.int IntKind.u8 50,Value.int IntKind.u8 10,Value.int IntKind.u8 36,Value.int IntKind.u8 51,Value.int IntKind.u8 10,Value.int IntKind.u8 103,Value.int IntKind.u8 101,Value.int IntKind.u8 116,Value.int IntKind.u8 10,Value.int IntKind.u8 36,Value.int IntKind.u8 49,Value.int IntKind.u8 10,Value.int IntKind.u8 97,Value.int IntKind.u8 10])[i]?=some (.int .u8 (b.toNat:Int)):=by
   intro i hi b hb;have:exL.map (fun b=>Value.int IntKind.u8 (b.toNat:Int))=[Value.int IntKind.u8 42,Value.int IntKind.u8 50,Value.int IntKind.u8 10,Value.int IntKind.u8 36,Value.int IntKind.u8 51,Value.int IntKind.u8 10,Value.int IntKind.u8 103,Value.int IntKind.u8 101,Value.int IntKind.u8 116,Value.int IntKind.u8 10,Value.int IntKind.u8 36,Value.int IntKind.u8 49,Value.int IntKind.u8 10,Value.int IntKind.u8 97,Value.int IntKind.u8 10]:=rfl;rw[List.getElem?_toArray,←this,List.getElem?_map,hb];rfl
  exact key i hi15 b hi
theorem waiting_ex (D g c:Nat)(w:World)(hD:w.heap[D]?=some (rd3 (.slice (some ⟨g,0,none⟩) 15 c) 0))(hc:15≤c):Calls Tryz.prog 125 #[.pointer (some ⟨D,1,none⟩)] w fun e w'=>e= .returned (.slice (some ⟨g,0,none⟩) 15 c)∧∃q,w'=w.drewN q:=by
 unfold rd3 at hD;have d0:=blkCell hD 0;have d1:=blkCell hD 1;have d2:=blkCell hD 2;have df:=blkFree hD;clear hD;simp at d0 d1 d2;go_enter Tryz.func125,Tryz.ntmps125;go_wp2;go_quiet (fail)
 go_wp2;go_ret;exact⟨rfl,_,rfl⟩
theorem len_ex (D g c:Nat)(w:World)(d1:w.cell? ⟨D,1,none⟩=some (.slice (some ⟨g,0,none⟩) 15 c))(d2:w.cell? ⟨D,2,none⟩=some (.int .i64 15)):Calls Tryz.prog 74 #[.pointer (some ⟨D,1,none⟩)] w fun e w'=>e= .returned (.int .i64 0)∧∃q,w'=w.drewN q:=by
 go_enter Tryz.func74,Tryz.ntmps74;go_wp2;go_quiet (fail)
 go_wp2;go_ret;exact⟨rfl,_,rfl⟩
theorem waiting15 (D g c:Nat)(w:World)(hc:15≤c)(d1:w.cell? ⟨D,1,none⟩=some (.slice (some ⟨g,0,none⟩) 15 c))(d2:w.cell? ⟨D,2,none⟩=some (.int .i64 15)):Calls Tryz.prog 125 #[.pointer (some ⟨D,1,none⟩)] w fun e w'=>(∃a,e= .returned (.slice (some a) 0 (c-15)))∧∃q,w'=w.drewN q:=by
 go_enter Tryz.func125,Tryz.ntmps125;go_wp2;by_cases h:c=15
 ·subst h;go_quiet (fail)
  go_wp2;go_ret;exact⟨⟨_,rfl⟩,_,rfl⟩
 ·go_quiet (fail)
  go_wp2;go_ret;exact⟨⟨_,rfl⟩,_,rfl⟩
theorem use_ex (D g c:Nat)(w:World)(hD:w.heap[D]?=some (rd3 (.slice (some ⟨g,0,none⟩) 15 c) 0))(hc:15≤c):Calls Tryz.prog 126 #[.pointer (some ⟨D,1,none⟩),.int .i64 15] w fun e w'=>e= .returned (.tuple #[])∧w'.heap[D]?=some (rd3 (.slice none 0 0) 0)∧Turn D w w':=by
 have HD:=hide' hD;unfold rd3 at hD;have d0:=blkCell hD 0;have d1:=blkCell hD 1;have d2:=blkCell hD 2;have d3:=blkCell hD 3;have d4:=blkCell hD 4;have df:=blkFree hD;have hlt:=blkLt hD;clear hD;simp at d0 d1 d2 d3 d4;have d2':(w.setCell ⟨D,2,none⟩ (.int .i64 15)).cell? ⟨D,2,none⟩=some (.int .i64 15):=World.cell?_setCell_same' _ _ _ (by rw[d2];rfl);have d1':(w.setCell ⟨D,2,none⟩ (.int .i64 15)).cell? ⟨D,1,none⟩=some (.slice (some ⟨g,0,none⟩) 15 c):=by go_simp
 go_enter Tryz.func126,Tryz.ntmps126;go_wp2;go_quiet ((go_at_call 74;exact Calls.quiet_of (len_ex D g c _ d1' d2')))
 go_wp2_with fail
 go_at_call 125;refine(waiting15 D g c ((w.setCell ⟨D,2,none⟩ (.int .i64 15)).drewN nq) hc d1' d2').mono ?_;rintro e w2 ⟨⟨a,rfl⟩,q,rfl⟩;go_wp2;go_end0;refine⟨rfl,?_,(((((Turn.refl D w).setCell 2 _).drewN _).setCell 1 _).setCell 2 _)⟩;have e1:=blkSet (i:=2) HD.out (.int .i64 15);have e1':((w.setCell ⟨D,2,none⟩ (.int .i64 15)).drewN (nq+q)).heap[D]?=some (.cells (#[.iface 162 (.agg #[]),.slice (some ⟨g,0,none⟩) 15 c,.int .i64 0,.bool false,.bool false].setIfInBounds 2 (.int .i64 15)) 134 (0,0)):=e1;have e2:=blkSet (i:=1) e1' (.slice none 0 0);have e3:=blkSet (i:=2) e2 (.int .i64 0);rw[e3];rfl
end Go.Proofs.YtlonjggfnleolaaGreatDoor
