import Derived.Test.YtlonjggfnleolaaGreatDoorInbox
import Derived.Deep.Cut
namespace Go.Proofs.YtlonjggfnleolaaGreatDoor
open Go.RowKit
set_option linter.unusedVariables false
set_option maxHeartbeats 2000000
set_option maxRecDepth 20000
variable {w a w0 w5:World}{S D g c kb kc:Nat}
theorem m_read3 (w:World):(method 432 162 (.agg #[]) "Read").run Tryz.prog w= .ok (251,.agg #[]) w:=by kernel_rfl
theorem n_read3 (w:World):(nilAhead 432 162 (.agg #[]) "Read").run Tryz.prog w= .ok (some false) w:=by kernel_rfl
def stepArr (b c:Nat):Array Value:=#[.int .i64 1,.slice (some ⟨b,0,none⟩) 1 c,.string ⟨#[]⟩,.string ⟨#[]⟩,.bool false,.int .i64 0,.int .i64 15,.bool false]
def zCmd:Array Value:=#[.int .i64 0,.slice none 0 0,.string ⟨#[]⟩,.string ⟨#[]⟩,.bool false,.int .i64 0]
theorem setStep (b c:Nat)(h:w.heap[S]?=some (.cells zStep 255 (0,0))):((((((((w.setCell ⟨S,0,none⟩ (.int .i64 1)).setCell ⟨S,1,none⟩ (.slice (some ⟨b,0,none⟩) 1 c)).setCell ⟨S,2,none⟩ (.string ⟨#[]⟩)).setCell ⟨S,3,none⟩ (.string ⟨#[]⟩)).setCell ⟨S,4,none⟩ (.bool false)).setCell ⟨S,5,none⟩ (.int .i64 0)).setCell ⟨S,6,none⟩ (.int .i64 15)).setCell ⟨S,7,none⟩ (.bool false)).heap[S]?=some (.cells (stepArr b c) 255 (0,0)):=by
 rw[blkSet (blkSet (blkSet (blkSet (blkSet (blkSet (blkSet (blkSet h _) _) _) _) _) _) _) _];rfl
theorem setOther {k:Nat}(hk:k≠S)(v0 v1 v2 v3 v4 v5 v6 v7:Value):((((((((w.setCell ⟨S,0,none⟩ v0).setCell ⟨S,1,none⟩ v1).setCell ⟨S,2,none⟩ v2).setCell ⟨S,3,none⟩ v3).setCell ⟨S,4,none⟩ v4).setCell ⟨S,5,none⟩ v5).setCell ⟨S,6,none⟩ v6).setCell ⟨S,7,none⟩ v7).heap[k]?=w.heap[k]?:=by
 rw[Below.heap_setCell _ ⟨S,7,none⟩ _ _ hk,Below.heap_setCell _ ⟨S,6,none⟩ _ _ hk,Below.heap_setCell _ ⟨S,5,none⟩ _ _ hk,Below.heap_setCell _ ⟨S,4,none⟩ _ _ hk,Below.heap_setCell _ ⟨S,3,none⟩ _ _ hk,Below.heap_setCell _ ⟨S,2,none⟩ _ _ hk,Below.heap_setCell _ ⟨S,1,none⟩ _ _ hk,Below.heap_setCell _ ⟨S,0,none⟩ _ _ hk]
theorem setBelow {B:Nat}(hb:Below B a w)(hS:B≤S)(v0 v1 v2 v3 v4 v5 v6 v7:Value):
 Below B a ((((((((w.setCell ⟨S,0,none⟩ v0).setCell ⟨S,1,none⟩ v1).setCell ⟨S,2,none⟩ v2).setCell ⟨S,3,none⟩ v3).setCell ⟨S,4,none⟩ v4).setCell ⟨S,5,none⟩ v5).setCell ⟨S,6,none⟩ v6).setCell ⟨S,7,none⟩ v7):=
 (((((((hb.setCell (p:=⟨S,0,none⟩) hS _).setCell (p:=⟨S,1,none⟩) hS _).setCell (p:=⟨S,2,none⟩) hS _).setCell (p:=⟨S,3,none⟩) hS _).setCell (p:=⟨S,4,none⟩) hS _).setCell (p:=⟨S,5,none⟩) hS _).setCell (p:=⟨S,6,none⟩) hS _).setCell (p:=⟨S,7,none⟩) hS _
structure StepRead (w W:World)(D g c S kb kc:Nat):Prop where
 hS:W.heap[S]?=some (.cells (stepArr kb kc) 255 (0,0))
 hD:W.heap[D]?=some (rd3 (.slice (some ⟨g,0,none⟩) 15 c) 0)
 h0:W.heap[w.heap.size]?=some (.cells zCmd 36 (0,0))
 lS:w.heap.size<S
 lk:w.heap.size<kb
 lk2:kb<W.heap.size
 nk:kb≠S
 ck:W.cell? ⟨kb,0,none⟩=some (.string ⟨#[97]⟩)
 bel:Below w.heap.size w W
theorem stepRead_new (hw:Below w.heap.size w w0)(h0:w0.heap[w.heap.size]?=some (.cells zCmd 36 (0,0)))(hD:w.heap[D]?=some (rd3 (.slice (some ⟨g,0,none⟩) 15 c) 0))(hb5:Below w0.heap.size w0 w5)(k1:w0.heap.size≤kb)(k2:kb<w5.heap.size)(k3:w5.cell? ⟨kb,0,none⟩=some (.string ⟨#[97]⟩)):StepRead w (w5.alloc (.cells (stepArr kb kc) 255 (0,0))) D g c w5.heap.size kb kc:=by
 have l0:=blkLt h0;have l5:=hb5.size;have bel:=hw.trans (hb5.mono hw.size);refine⟨blkNew _ _,?_,?_,by omega,by omega,by simp;omega,by omega,?_,bel.alloc bel.size _⟩
 ·rw[Below.heap_alloc _ _ _ (by have:=blkLt hD;have:=bel.size;omega)];exact(bel.block D (blkLt hD)).trans hD
 ·rw[Below.heap_alloc _ _ _ (by omega)];exact(hb5.block _ l0).trans h0
 ·exact(World.cell?_of_block (w:=w5) (Below.heap_alloc w5 _ kb k2)).trans k3
theorem stepRead_set (hw:Below w.heap.size w w0)(h0:w0.heap[w.heap.size]?=some (.cells zCmd 36 (0,0)))(h1:w0.heap[w.heap.size+1]?=some (.cells zStep 255 (0,0)))(hD:w.heap[D]?=some (rd3 (.slice (some ⟨g,0,none⟩) 15 c) 0))(hb5:Below w0.heap.size w0 w5)(k1:w0.heap.size≤kb)(k2:kb<w5.heap.size)(k3:w5.cell? ⟨kb,0,none⟩=some (.string ⟨#[97]⟩)):StepRead w ((((((((w5.setCell ⟨w.heap.size+1,0,none⟩ (.int .i64 1)).setCell ⟨w.heap.size+1,1,none⟩ (.slice (some ⟨kb,0,none⟩) 1 kc)).setCell ⟨w.heap.size+1,2,none⟩ (.string ⟨#[]⟩)).setCell ⟨w.heap.size+1,3,none⟩ (.string ⟨#[]⟩)).setCell ⟨w.heap.size+1,4,none⟩ (.bool false)).setCell ⟨w.heap.size+1,5,none⟩ (.int .i64 0)).setCell ⟨w.heap.size+1,6,none⟩ (.int .i64 15)).setCell ⟨w.heap.size+1,7,none⟩ (.bool false)) D g c (w.heap.size+1) kb kc:=by
 have l0:=blkLt h0;have l1:=blkLt h1;have l5:=hb5.size;have lD:=blkLt hD;have bel:=hw.trans (hb5.mono hw.size);refine⟨setStep kb kc ((hb5.block _ l1).trans h1),?_,?_,by omega,by omega,by simpa using k2,by omega,?_,setBelow bel (by omega) _ _ _ _ _ _ _ _⟩
 ·rw[setOther (by omega)];exact(bel.block D lD).trans hD
 ·rw[setOther (by omega)];exact(hb5.block _ l0).trans h0
 ·refine(World.cell?_of_block (w:=w5) ?_).trans k3;exact setOther (show kb≠w.heap.size+1 by omega) _ _ _ _ _ _ _ _
theorem Turn.setNew (h:Turn D a w){p:Addr}(hp:a.heap.size≤p.block)(v:Value):Turn D a (w.setCell p v):=
 ⟨by rw[←h.os];simp[World.setCell],by rw[←h.tape];simp[World.setCell],by rw[←h.output];simp[World.setCell],by simpa using h.size,fun k hk hn=>(Below.heap_setCell w p v k (by omega)).trans (h.block k hk hn)⟩
theorem readR_ex (D g c:Nat)(w:World)(hD:w.heap[D]?=some (rd3 (.slice (some ⟨g,0,none⟩) 15 c) 0))(hc:15≤c)(hg:g<w.heap.size)(hgD:g≠D)(hb:∀(i:Nat) (b:UInt8),exL[i]?=some b→w.cell? ⟨g,0+i,none⟩=some (.int .u8 (b.toNat:Int))):Calls Tryz.prog 121 #[.pointer (some ⟨D,0,none⟩)] w fun e w'=>(∃kb kc,e= .returned (.tuple #[.agg #[.int .i64 1,.slice (some ⟨kb,0,none⟩) 1 kc,.string ⟨#[]⟩,.string ⟨#[]⟩,.bool false,.int .i64 0],.bool true])∧w.heap.size≤kb∧kb<w'.heap.size∧w'.cell? ⟨kb,0,none⟩=some (.string ⟨#[97]⟩))∧w'.heap[D]?=some (rd3 (.slice none 0 0) 0)∧Turn D w w':=by
 have HD:=hide' hD;have HB:=hide' hb;unfold rd3 at hD;have d0:=blkCell hD 0;have d1:=blkCell hD 1;have d2:=blkCell hD 2;have d3:=blkCell hD 3;have d4:=blkCell hD 4;have df:=blkFree hD;have hlt:=blkLt hD;clear hD hb;simp at d0 d1 d2 d3 d4;have hm:=m_read3;have hn:=n_read3;go_enter Tryz.func121,Tryz.ntmps121;go_wp2;have hAny:∀W',Below w.heap.size w W'→W'.heap[D]?=some (rd3 (.slice (some ⟨g,0,none⟩) 15 c) 0):=fun W' hb=>(hb.block D hlt).trans HD.out
 have hBy:∀W',Below w.heap.size w W'→(∀(i:Nat) (b:UInt8),exL[i]?=some b→W'.cell? ⟨g,0+i,none⟩=some (.int .u8 (b.toNat:Int))):=fun W' hb i b h=>(hb.cell (p:=⟨g,0+i,none⟩) hg).trans (HB.out i b h)
 have ne1:¬w.heap.size+1=D:=by omega
 have ne2:¬D=w.heap.size+1:=by omega
 have ne3:¬w.heap.size=D:=by omega
 have ne4:¬D=w.heap.size:=by omega
 have HA:=hide' hAny;have HY:=hide' hBy;clear hAny hBy;go_cut [4]from 5 (fun s4 W=>∃S kb kc,s4= .pointer (some ⟨S,0,none⟩)∧StepRead w W D g c S kb kc)
 case first=>
  go_region_held3 (fun w'=>w'.cell? ⟨D,0,none⟩=some (.iface 162 (.agg #[]))) (go_keep)
   (first
    |(go_at_call 125;refine(waiting_ex D g c _ ?hx hc).mono ?_;(case hx=>exact HA.out _ (by repeat(first|exact Below.refl _ _|refine Below.drew ?_|refine below_drewN ?_ _|refine Below.alloc ?_ (by simp;try omega) _)));rintro e w' ⟨rfl,q,rfl⟩)
    |(go_at_call 251;refine(read_ex _ g 0 c ?hg hc ?hx).mono ?_;(case hg=>simp;omega);(case hx=>exact HY.out _ (by repeat(first|exact Below.refl _ _|refine Below.drew ?_|refine below_drewN ?_ _|refine Below.alloc ?_ (by simp;try omega) _)));rintro e w5 ⟨⟨kb,kc,he5,hkb1,hkb2,hkb3⟩,hB5⟩;unfold exStep at he5;subst he5;have hS5:=(hB5.cell (p:=⟨D,0,none⟩) (by simp;omega));obtain⟨hc5,hf5⟩:=bcell2 hB5;have hz5:=hB5.size;have HB5:=hide' hB5;have HK1:=hide' hkb1;have HK2:=hide' hkb2;have HK5:=hide' hkb3;clear hB5 hkb3 hkb1 hkb2))
  ·go_wp2_with fail
   go_meet
   case rel=>
    refine⟨w5.heap.size,kb,kc,rfl,?_⟩;have q:=HB5.out;have k1:=HK1.out;have k2:=HK2.out;have k3:=HK5.out;have hd:=HD.out;clear HA HY HB HD HB5 HK1 HK2 HK5 hc5 hf5 hm hn;refine stepRead_new ?_ ?_ hd q k1 k2 k3
    ·repeat(first|exact Below.refl _ _|refine Below.drew ?_|refine below_drewN ?_ _|refine Below.alloc ?_ (by simp;try omega) _)
    ·exact blkNew w (.cells zCmd 36 (0,0))
  all_goals
   go_wp2_with fail
   go_meet
   case rel=>
    refine⟨w.heap.size+1,kb,kc,rfl,?_⟩;have q:=HB5.out;have k1:=HK1.out;have k2:=HK2.out;have k3:=HK5.out;have hd:=HD.out;clear HA HY HB HD HB5 HK1 HK2 HK5 hc5 hf5 hm hn;refine stepRead_set ?_ ?_ ?_ hd q k1 k2 k3
    ·repeat(first|exact Below.refl _ _|refine Below.drew ?_|refine below_drewN ?_ _|refine Below.alloc ?_ (by simp;try omega) _)
    ·exact(Below.heap_alloc (w.alloc (.cells zCmd 36 (0,0))) _ _ (by simp)).trans (blkNew w _)
    ·have:=blkNew (w.alloc (.cells zCmd 36 (0,0))) (.cells zStep 255 (0,0));rw[World.size_alloc]at this;exact this
 case rest=>
  obtain⟨S,kb,kc,rfl,R⟩:=hcut;have s0:=blkCell R.hS 0;have s1:=blkCell R.hS 1;have s2:=blkCell R.hS 2;have s3:=blkCell R.hS 3;have s4:=blkCell R.hS 4;have s5:=blkCell R.hS 5;have s6:=blkCell R.hS 6;have s7:=blkCell R.hS 7;have HR:=hide' R;clear R HA HY HB d0 d1 d2 d3 d4 df hm hn;simp[stepArr]at s0 s1 s2 s3 s4 s5 s6 s7;go_wp2;go_region_held3 (fun w'=>w'.cell? ⟨S,6,none⟩=some (.int .i64 15)) (go_keep)
   (first|(go_at_call 126;refine(use_ex D g c _ ?hx hc).mono ?_;(case hx=>exact HR.out.hD);rintro e w6 ⟨rfl,hD6,T6⟩;have hS6:=(T6.cell (p:=⟨S,6,none⟩) (blkLt HR.out.hS) (by have:=HR.out.lS;show S≠D;omega))))
  have lS:=HR.out.lS;have lk:=HR.out.lk;have lk2:=HR.out.lk2;have nk:=HR.out.nk;have nS:S≠D:=by omega
  have tS:=(T6.block S (blkLt HR.out.hS) nS).trans HR.out.hS;have t0:=(T6.block w.heap.size (blkLt HR.out.h0) (by omega)).trans HR.out.h0;have tk:=(T6.cell (p:=⟨kb,0,none⟩) lk2 (by show kb≠D;omega)).trans HR.out.ck;have x0:=blkCell tS 0;have x1:=blkCell tS 1;have x2:=blkCell tS 2;have x3:=blkCell tS 3;have x4:=blkCell tS 4;have x5:=blkCell tS 5;have x7:=blkCell tS 7;have y0:=blkCell t0 0;have y1:=blkCell t0 1;have y2:=blkCell t0 2;have y3:=blkCell t0 3;have y4:=blkCell t0 4;have y5:=blkCell t0 5;have yf:=blkFree t0;have sz6:wc.heap.size≤w6.heap.size:=T6.size;have TT:Turn D w w6:=((Turn.of_below HR.out.bel).drew).trans T6;have HD6:=hide' hD6;have HT:=hide' TT;have HK:=hide' tk;have H0:=hide' t0
  clear hD6 TT tk tS t0 T6 s0 s1 s2 s3 s4 s5 s6 s7 hS6 HR HD;simp[stepArr]at x0 x1 x2 x3 x4 x5 x7;simp[zCmd]at y0 y1 y2 y3 y4 y5;have nS0:¬S=w.heap.size:=by omega
  go_wp2;refine bodyPost_ret (v:= .tuple #[.agg #[.int .i64 1,.slice (some ⟨kb,0,none⟩) 1 kc,.string ⟨#[]⟩,.string ⟨#[]⟩,.bool false,.int .i64 0],.bool true]) (by simp[results,Tryz.results121,go_sem,y0,y1,y2,y3,y4,y5]) rfl ⟨⟨kb,kc,rfl,by omega,?_,?_⟩,?_,?_⟩
  ·simp;omega
  ·refine(World.cell?_of_block (w:=w6) ?_).trans HK.out;have hk:kb≠w.heap.size:=by omega
   rw[Below.heap_setCell _ ⟨w.heap.size,5,none⟩ _ _ hk,Below.heap_setCell _ ⟨w.heap.size,4,none⟩ _ _ hk,Below.heap_setCell _ ⟨w.heap.size,3,none⟩ _ _ hk,Below.heap_setCell _ ⟨w.heap.size,2,none⟩ _ _ hk,Below.heap_setCell _ ⟨w.heap.size,1,none⟩ _ _ hk,Below.heap_setCell _ ⟨w.heap.size,0,none⟩ _ _ hk]
  ·have hk:D≠w.heap.size:=by omega
   rw[Below.heap_setCell _ ⟨w.heap.size,5,none⟩ _ _ hk,Below.heap_setCell _ ⟨w.heap.size,4,none⟩ _ _ hk,Below.heap_setCell _ ⟨w.heap.size,3,none⟩ _ _ hk,Below.heap_setCell _ ⟨w.heap.size,2,none⟩ _ _ hk,Below.heap_setCell _ ⟨w.heap.size,1,none⟩ _ _ hk,Below.heap_setCell _ ⟨w.heap.size,0,none⟩ _ _ hk];exact HD6.out
  ·have q:=HT.out;exact(((((q.setNew (p:=⟨w.heap.size,0,none⟩) (Nat.le_refl _) _).setNew (p:=⟨w.heap.size,1,none⟩) (Nat.le_refl _) _).setNew (p:=⟨w.heap.size,2,none⟩) (Nat.le_refl _) _).setNew (p:=⟨w.heap.size,3,none⟩) (Nat.le_refl _) _).setNew (p:=⟨w.heap.size,4,none⟩) (Nat.le_refl _) _).setNew (p:=⟨w.heap.size,5,none⟩) (Nat.le_refl _) _
end Go.Proofs.YtlonjggfnleolaaGreatDoor
