import Derived.Test.YtlonjggfnleolaaGreatDoorReaderEx
import Derived.Test.YtlonjggfnleolaaGreatDoorReadNil
namespace Go.Proofs.YtlonjggfnleolaaGreatDoor
open Go.RowKit
set_option linter.unusedVariables false
set_option maxHeartbeats 2000000
set_option maxRecDepth 20000
variable {w w0 w5:World}{D:Nat}
theorem waiting_nil (D:Nat)(w:World)(hD:w.heap[D]?=some (rd3 (.slice none 0 0) 0)):Calls Tryz.prog 125 #[.pointer (some ⟨D,1,none⟩)] w fun e w'=>e= .returned (.slice none 0 0)∧∃q,w'=w.drewN q:=by
 unfold rd3 at hD;have d0:=blkCell hD 0;have d1:=blkCell hD 1;have d2:=blkCell hD 2;have df:=blkFree hD;clear hD;simp at d0 d1 d2;go_enter Tryz.func125,Tryz.ntmps125;go_wp2;go_quiet (fail)
 go_wp2;go_ret;exact⟨rfl,_,rfl⟩
theorem setZero {S:Nat}(h:w.heap[S]?=some (.cells zStep 255 (0,0))):((((((((w.setCell ⟨S,0,none⟩ (.int .i64 0)).setCell ⟨S,1,none⟩ (.slice none 0 0)).setCell ⟨S,2,none⟩ (.string ⟨#[]⟩)).setCell ⟨S,3,none⟩ (.string ⟨#[]⟩)).setCell ⟨S,4,none⟩ (.bool false)).setCell ⟨S,5,none⟩ (.int .i64 0)).setCell ⟨S,6,none⟩ (.int .i64 0)).setCell ⟨S,7,none⟩ (.bool false)).heap[S]?=some (.cells zStep 255 (0,0)):=by
 rw[blkSet (blkSet (blkSet (blkSet (blkSet (blkSet (blkSet (blkSet h _) _) _) _) _) _) _) _];rfl
structure StepNil (w W:World)(D S:Nat):Prop where
 hS:W.heap[S]?=some (.cells zStep 255 (0,0))
 hD:W.heap[D]?=some (rd3 (.slice none 0 0) 0)
 h0:W.heap[w.heap.size]?=some (.cells zCmd 36 (0,0))
 lS:w.heap.size<S
 bel:Below w.heap.size w W
theorem stepNil_new (hw:Below w.heap.size w w0)(h0:w0.heap[w.heap.size]?=some (.cells zCmd 36 (0,0)))(hD:w.heap[D]?=some (rd3 (.slice none 0 0) 0))(hb5:Below w0.heap.size w0 w5):StepNil w (w5.alloc (.cells zStep 255 (0,0))) D w5.heap.size:=by
 have l0:=blkLt h0;have l5:=hb5.size;have bel:=hw.trans (hb5.mono hw.size);refine⟨blkNew _ _,?_,?_,by omega,bel.alloc bel.size _⟩
 ·rw[Below.heap_alloc _ _ _ (by have:=blkLt hD;have:=bel.size;omega)];exact(bel.block D (blkLt hD)).trans hD
 ·rw[Below.heap_alloc _ _ _ (by omega)];exact(hb5.block _ l0).trans h0
theorem stepNil_set (hw:Below w.heap.size w w0)(h0:w0.heap[w.heap.size]?=some (.cells zCmd 36 (0,0)))(h1:w0.heap[w.heap.size+1]?=some (.cells zStep 255 (0,0)))(hD:w.heap[D]?=some (rd3 (.slice none 0 0) 0))(hb5:Below w0.heap.size w0 w5):StepNil w ((((((((w5.setCell ⟨w.heap.size+1,0,none⟩ (.int .i64 0)).setCell ⟨w.heap.size+1,1,none⟩ (.slice none 0 0)).setCell ⟨w.heap.size+1,2,none⟩ (.string ⟨#[]⟩)).setCell ⟨w.heap.size+1,3,none⟩ (.string ⟨#[]⟩)).setCell ⟨w.heap.size+1,4,none⟩ (.bool false)).setCell ⟨w.heap.size+1,5,none⟩ (.int .i64 0)).setCell ⟨w.heap.size+1,6,none⟩ (.int .i64 0)).setCell ⟨w.heap.size+1,7,none⟩ (.bool false)) D (w.heap.size+1):=by
 have l0:=blkLt h0;have l1:=blkLt h1;have l5:=hb5.size;have lD:=blkLt hD;have bel:=hw.trans (hb5.mono hw.size);refine⟨setZero ((hb5.block _ l1).trans h1),?_,?_,by omega,setBelow bel (by omega) _ _ _ _ _ _ _ _⟩
 ·rw[setOther (by omega)];exact(bel.block D lD).trans hD
 ·rw[setOther (by omega)];exact(hb5.block _ l0).trans h0
theorem readRd_nil (D:Nat)(w:World)(hD:w.heap[D]?=some (rd3 (.slice none 0 0) 0)):Calls Tryz.prog 121 #[.pointer (some ⟨D,0,none⟩)] w fun e w'=>e= .returned (.tuple #[.agg #[.int .i64 0,.slice none 0 0,.string ⟨#[]⟩,.string ⟨#[]⟩,.bool false,.int .i64 0],.bool false])∧w'.heap[D]?=some (rd3 (.slice none 0 0) 0)∧Below w.heap.size w w':=by
 have HD:=hide' hD;unfold rd3 at hD;have d0:=blkCell hD 0;have hlt:=blkLt hD;clear hD;simp at d0;have hm:=m_read3;have hn:=n_read3;go_enter Tryz.func121,Tryz.ntmps121;go_wp2;have hAny:∀W',Below w.heap.size w W'→W'.heap[D]?=some (rd3 (.slice none 0 0) 0):=fun W' hb=>(hb.block D hlt).trans HD.out
 have ne1:¬w.heap.size+1=D:=by omega
 have ne2:¬D=w.heap.size+1:=by omega
 have ne3:¬w.heap.size=D:=by omega
 have ne4:¬D=w.heap.size:=by omega
 have HA:=hide' hAny;clear hAny;go_cut [4]from 5 (fun s4 W=>∃S,s4= .pointer (some ⟨S,0,none⟩)∧StepNil w W D S)
 case first=>
  go_region_held3 (fun w'=>w'.cell? ⟨D,0,none⟩=some (.iface 162 (.agg #[]))) (go_keep)
   (first
    |(go_at_call 125;refine(waiting_nil D _ ?hx).mono ?_;(case hx=>exact HA.out _ (by repeat(first|exact Below.refl _ _|refine Below.drew ?_|refine below_drewN ?_ _|refine Below.alloc ?_ (by simp;try omega) _)));rintro e w' ⟨rfl,q,rfl⟩)
    |(go_at_call 251;refine(read_nil _).mono ?_;rintro e w5 ⟨he5,hB5⟩;unfold zStepV at he5;subst he5;have hS5:=(hB5.cell (p:=⟨D,0,none⟩) (by simp;omega));obtain⟨hc5,hf5⟩:=bcell2 hB5;have hz5:=hB5.size;have HB5:=hide' hB5;clear hB5))
  ·go_wp2_with fail
   go_meet
   case rel=>
    refine⟨w5.heap.size,rfl,?_⟩;have q:=HB5.out;have hd:=HD.out;clear HA HD HB5 hc5 hf5 hm hn;refine stepNil_new ?_ ?_ hd q
    ·repeat(first|exact Below.refl _ _|refine Below.drew ?_|refine below_drewN ?_ _|refine Below.alloc ?_ (by simp;try omega) _)
    ·exact blkNew w (.cells zCmd 36 (0,0))
  all_goals
   go_wp2_with fail
   go_meet
   case rel=>
    refine⟨w.heap.size+1,rfl,?_⟩;have q:=HB5.out;have hd:=HD.out;clear HA HD HB5 hc5 hf5 hm hn;refine stepNil_set ?_ ?_ ?_ hd q
    ·repeat(first|exact Below.refl _ _|refine Below.drew ?_|refine below_drewN ?_ _|refine Below.alloc ?_ (by simp;try omega) _)
    ·exact(Below.heap_alloc (w.alloc (.cells zCmd 36 (0,0))) _ _ (by simp)).trans (blkNew w _)
    ·have:=blkNew (w.alloc (.cells zCmd 36 (0,0))) (.cells zStep 255 (0,0));rw[World.size_alloc]at this;exact this
 case rest=>
  obtain⟨S,rfl,R⟩:=hcut;have s6:=blkCell R.hS 6;have y0:=blkCell R.h0 0;have y1:=blkCell R.h0 1;have y2:=blkCell R.h0 2;have y3:=blkCell R.h0 3;have y4:=blkCell R.h0 4;have y5:=blkCell R.h0 5;have yf:=blkFree R.h0;have HR:=hide' R;clear R HA d0 hm hn;simp[zStep]at s6;simp[zCmd]at y0 y1 y2 y3 y4 y5;go_wp2;refine bodyPost_ret (v:= .tuple #[.agg #[.int .i64 0,.slice none 0 0,.string ⟨#[]⟩,.string ⟨#[]⟩,.bool false,.int .i64 0],.bool false]) (by simp[results,Tryz.results121,go_sem,y0,y1,y2,y3,y4,y5]) rfl ⟨rfl,?_,?_⟩
  ·have hk:D≠w.heap.size:=by omega
   rw[Below.heap_setCell _ ⟨w.heap.size,5,none⟩ _ _ hk,Below.heap_setCell _ ⟨w.heap.size,4,none⟩ _ _ hk,Below.heap_setCell _ ⟨w.heap.size,3,none⟩ _ _ hk,Below.heap_setCell _ ⟨w.heap.size,2,none⟩ _ _ hk,Below.heap_setCell _ ⟨w.heap.size,1,none⟩ _ _ hk,Below.heap_setCell _ ⟨w.heap.size,0,none⟩ _ _ hk];exact HR.out.hD
  ·have q:=HR.out.bel;exact(((((q.setCell (p:=⟨w.heap.size,0,none⟩) (Nat.le_refl _) _).setCell (p:=⟨w.heap.size,1,none⟩) (Nat.le_refl _) _).setCell (p:=⟨w.heap.size,2,none⟩) (Nat.le_refl _) _).setCell (p:=⟨w.heap.size,3,none⟩) (Nat.le_refl _) _).setCell (p:=⟨w.heap.size,4,none⟩) (Nat.le_refl _) _).setCell (p:=⟨w.heap.size,5,none⟩) (Nat.le_refl _) _
end Go.Proofs.YtlonjggfnleolaaGreatDoor
