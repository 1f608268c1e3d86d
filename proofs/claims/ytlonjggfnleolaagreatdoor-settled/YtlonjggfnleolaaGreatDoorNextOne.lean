import Derived.Test.YtlonjggfnleolaaGreatDoorReaderNil
import Derived.RangeFuncNested
import Derived.RangeFuncBound
import Derived.RangeFuncCalls
import Derived.RangeFuncLeaves
import Derived.Shelf.Abstract
import Derived.Shelf.RegionOpen
import Derived.OwnWalkIn
import Derived.TacticsInMore
import Derived.LoopNIn
import Derived.LoopIn
namespace Go.Proofs.YtlonjggfnleolaaGreatDoor
open Go.RowKit Go.Shelf
set_option linter.unusedVariables false
set_option maxHeartbeats 2000000
set_option maxRecDepth 20000
attribute [local go_sem] Oper.semAt_some
def boxR (D:Nat):Obj:= .cells #[.pointer (some ⟨D,0,none⟩)] 97 (0,0)
def cmdV (kb kc:Nat):Value:= .agg #[.int .i64 1,.slice (some ⟨kb,0,none⟩) 1 kc,.string ⟨#[]⟩,.string ⟨#[]⟩,.bool false,.int .i64 0]
theorem next1_ex (n l X D g c:Nat)(W:World)(hX:W.heap[X]?=some (boxR D))(hXD:X≠D)(hD:W.heap[D]?=some (rd3 (.slice (some ⟨g,0,none⟩) 15 c) 0))(hc:15≤c)(hg:g<W.heap.size)(hgD:g≠D)(hb:∀(i:Nat) (b:UInt8),exL[i]?=some b→W.cell? ⟨g,0+i,none⟩=some (.int .u8 (b.toNat:Int)))(R:World→Prop)(hY:∀W1 kb kc,Turn D W W1→W1.heap[D]?=some (rd3 (.slice none 0 0) 0)→W.heap.size≤kb→kb<W1.heap.size→W1.cell? ⟨kb,0,none⟩=some (.string ⟨#[97]⟩)→YieldAt Fence.wide (n-1) Tryz.prog l #[cmdV kb kc] W1 fun e W'=>e= .returned (.bool true)∧W'.heap[D]?=some (rd3 (.slice none 0 0) 0)∧W'.heap[X]?=some (boxR D)∧R W')(hR:∀W1 W2,R W1→Below W1.heap.size W1 W2→R W2):CallsIn Fence.wide n Tryz.prog 120 #[.func (.yield l) #[] #[],.pointer (some ⟨X,0,none⟩)] W fun e W'=>(∃v,e= .returned v)∧R W':=by
 have HX:=hide' hX;have HD:=hide' hD;have HY:=hide' hY;have HR:=hide' hR;have HB:=hide' hb;clear hD hY hR hb;unfold boxR at hX;have x0:=blkCell hX 0;simp at x0;clear hX;refine callsIn_of_wp Tryz.func120 rfl trivial ?_ rfl;simp only[Tryz.ntmps120,List.size_toArray,List.length_cons,List.length_nil,Nat.reduceAdd,Nat.reduceSub,Array.replicate_succ,Array.replicate_zero,List.push_toArray,List.append_toArray,List.nil_append,List.cons_append]
 gi_wp2;refine wpIn_loop_rounds 2 ?_;rw[roundsIn_succ];gi_wp2_with fail;refine⟨trivial,(fun h=>(by cases h)),?_⟩;refine(callsIn_wide.2 (readR_ex D g c W HD.out hc hg hgD HB.out)).mono ?_;rintro e w1 ⟨⟨kb,kc,rfl,hk1,hk2,hk3⟩,hD1,T1⟩;have hsz1:=T1.size;have hXlt:=blkLt HX.out;have hX1:=(T1.block X hXlt hXD).trans HX.out;have hDlt:=blkLt HD.out;have TA:=T1.alloc (Obj.cells #[.int .i64 1,.slice (some ⟨kb,0,none⟩) 1 kc,.string ⟨#[]⟩,.string ⟨#[]⟩,.bool false,.int .i64 0] 36);have hy:=HY.out _ kb kc TA ((Below.heap_alloc w1 _ D (by omega)).trans hD1) hk1 (by simp;omega) ((World.cell?_of_block (w:=w1) (Below.heap_alloc w1 _ kb hk2)).trans hk3);unfold cmdV at hy;obtain⟨fn,tmps,assign,body,hy1,hy2⟩:=hy
 have HD1:=hide' hD1;have HX1:=hide' hX1;have HT1:=hide' T1;have HY2:=hide' hy2;clear hD1 hX1 T1 TA hk3 hy2;gi_wp2;refine⟨(fun h=>(by cases h)),HY2.out.mono ?_⟩;rintro e W2 ⟨rfl,hD2,hX2,hR2⟩;have HX2:=hide' hX2;have HRR:=hide' hR2;unfold boxR at hX2;have z0:=blkCell hX2 0;simp at z0;clear hX2 hR2 hy1 HY2 HT1 HX1 HD1;gi_wp2;rw[roundsIn_succ];gi_wp2_with fail;refine⟨trivial,(fun h=>(by cases h)),?_⟩;refine(callsIn_wide.2 (readRd_nil D W2 hD2)).mono ?_;rintro e w3 ⟨rfl,hD3,B3⟩;have HB3:=hide' B3;clear B3;gi_wp2;refine⟨fun _ h=>(by cases h),?_⟩;gi_wp2;refine bodyPost_ret (results_none rfl _ _ _) rfl ?_;refine⟨⟨_,rfl⟩,HR.out _ _ HRR.out (HB3.out.trans ?_)⟩;exact((Below.refl _ _).alloc (HB3.out.size) _)
end Go.Proofs.YtlonjggfnleolaaGreatDoor
