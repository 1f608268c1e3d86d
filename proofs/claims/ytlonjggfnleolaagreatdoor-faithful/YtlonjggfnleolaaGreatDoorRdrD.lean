import Derived.Test.YtlonjggfnleolaaGreatDoorRdrC
namespace Go.Proofs.YtlonjggfnleolaaGreatDoor
open Go.RowKit
set_option linter.unusedVariables false
set_option maxHeartbeats 2000000
set_option maxRecDepth 20000
variable {w w' W W' w0 w5:World}{r:Option StepR}{lo lo' S D t:Nat}{hb:Option Nat}{s:St}
structure SV where
 k:Int
 ka:Option Addr
 kn:Nat
 kc:Nat
 val:ByteArray
 wd:ByteArray
 ft:Bool
 id:Int
 used:Int
 sk:Bool
def SV.arr (s:SV):Array Value:=#[.int .i64 s.k,.slice s.ka s.kn s.kc,.string s.val,.string s.wd,.bool s.ft,.int .i64 s.id,.int .i64 s.used,.bool s.sk]
def SV.is (W:World)(lo:Nat)(s:SV)(r:Option StepR):Prop:=
 match r with
 |none=>s=⟨0,none,0,0,⟨#[]⟩,⟨#[]⟩,false,0,0,false⟩
 |some t=>s.k=t.c.kind∧KeysIn W lo (.slice s.ka s.kn s.kc) t.c.keys∧s.val=t.c.val∧s.wd=t.c.word∧s.ft=t.c.fatal∧s.id=t.c.id∧s.used=t.used∧s.sk=t.skip
theorem stepOut_sv {e:Ending}(h:StepOut w w' r e):∃s:SV,e= .returned (.agg #[.int .i64 s.k,.slice s.ka s.kn s.kc,.string s.val,.string s.wd,.bool s.ft,.int .i64 s.id,.int .i64 s.used,.bool s.sk])∧s.is w' w.heap.size r:=by
 cases r with
 |none=>exact⟨⟨0,none,0,0,⟨#[]⟩,⟨#[]⟩,false,0,0,false⟩,h,rfl⟩
 |some t=>
  obtain⟨kv,he,hk⟩:=h;obtain⟨ka,kn,kc,rfl⟩:=hk.form;exact⟨⟨t.c.kind,ka,kn,kc,t.c.val,t.c.word,t.c.fatal,t.c.id,t.used,t.skip⟩,he,rfl,hk,rfl,rfl,rfl,rfl,rfl,rfl⟩
theorem KeysIn.other {v:Value}{ss:List ByteArray}(h:KeysIn W lo v ss)(hl:lo'≤lo)(k:∀b c (Z:Array Value),W.heap[b]?=some (.cells Z 9 (0,0))→Z.size=c→lo≤b→W'.heap[b]?=W.heap[b]?):KeysIn W' lo' v ss:=by
 rcases h with h|⟨b,c,e1,e2,Z,hZ,hz,h3⟩
 ·exact .inl h
 ·exact .inr ⟨b,c,e1,by omega,Z,(k b c Z hZ hz e2).trans hZ,hz,h3⟩
theorem SV.is_other {s:SV}(h:s.is W lo r)(hl:lo'≤lo)(k:∀b c (Z:Array Value),W.heap[b]?=some (.cells Z 9 (0,0))→Z.size=c→lo≤b→W'.heap[b]?=W.heap[b]?):s.is W' lo' r:=by
 cases r with
 |none=>exact h
 |some t=>exact⟨h.1,h.2.1.other hl k,h.2.2⟩
structure StepRd (w W:World)(S:Nat)(s:SV)(r:Option StepR):Prop where
 hS:W.heap[S]?=some (.cells s.arr 255 (0,0))
 h0:W.heap[w.heap.size]?=some (.cells zCmd 36 (0,0))
 lS:w.heap.size<S
 is:s.is W w.heap.size r
 bel:Below w.heap.size w W
theorem set8_at (h:w.heap[S]?=some (.cells zStep 255 (0,0)))(v0 v1 v2 v3 v4 v5 v6 v7:Value):((((((((w.setCell ⟨S,0,none⟩ v0).setCell ⟨S,1,none⟩ v1).setCell ⟨S,2,none⟩ v2).setCell ⟨S,3,none⟩ v3).setCell ⟨S,4,none⟩ v4).setCell ⟨S,5,none⟩ v5).setCell ⟨S,6,none⟩ v6).setCell ⟨S,7,none⟩ v7).heap[S]?=some (.cells #[v0,v1,v2,v3,v4,v5,v6,v7] 255 (0,0)):=by
 have h0:=blkSet (i:=0) h v0;have h1:=blkSet (i:=1) h0 v1;have h2:=blkSet (i:=2) h1 v2;have h3:=blkSet (i:=3) h2 v3;have h4:=blkSet (i:=4) h3 v4;have h5:=blkSet (i:=5) h4 v5;have h6:=blkSet (i:=6) h5 v6;have h7:=blkSet (i:=7) h6 v7;rw[h7];simp[zStep,Array.setIfInBounds]
theorem stepRd_new {s:SV}(hw:Below w.heap.size w w0)(h0:w0.heap[w.heap.size]?=some (.cells zCmd 36 (0,0)))(hb5:Below w0.heap.size w0 w5)(hs:s.is w5 w0.heap.size r):StepRd w (w5.alloc (.cells #[.int .i64 s.k,.slice s.ka s.kn s.kc,.string s.val,.string s.wd,.bool s.ft,.int .i64 s.id,.int .i64 s.used,.bool s.sk] 255)) w5.heap.size s r:=by
 have l0:=blkLt h0;have l5:=hb5.size;have bel:=hw.trans (hb5.mono hw.size);refine⟨blkNew _ _,?_,by omega,SV.is_other hs hw.size (fun b c Z hZ _ _=>Below.heap_alloc _ _ _ (blkLt hZ)),bel.alloc bel.size _⟩;rw[Below.heap_alloc _ _ _ (by omega)];exact(hb5.block _ l0).trans h0
theorem stepRd_set {s:SV}(hw:Below w.heap.size w w0)(h0:w0.heap[w.heap.size]?=some (.cells zCmd 36 (0,0)))(h1:w0.heap[w.heap.size+1]?=some (.cells zStep 255 (0,0)))(hb5:Below w0.heap.size w0 w5)(hs:s.is w5 w0.heap.size r):StepRd w ((((((((w5.setCell ⟨w.heap.size+1,0,none⟩ (.int .i64 s.k)).setCell ⟨w.heap.size+1,1,none⟩ (.slice s.ka s.kn s.kc)).setCell ⟨w.heap.size+1,2,none⟩ (.string s.val)).setCell ⟨w.heap.size+1,3,none⟩ (.string s.wd)).setCell ⟨w.heap.size+1,4,none⟩ (.bool s.ft)).setCell ⟨w.heap.size+1,5,none⟩ (.int .i64 s.id)).setCell ⟨w.heap.size+1,6,none⟩ (.int .i64 s.used)).setCell ⟨w.heap.size+1,7,none⟩ (.bool s.sk)) (w.heap.size+1) s r:=by
 have l0:=blkLt h0;have l1:=blkLt h1;have bel:=hw.trans (hb5.mono hw.size);refine⟨?_,?_,by omega,SV.is_other hs hw.size (fun b c Z hZ _ hl=>setOther (by omega) _ _ _ _ _ _ _ _),setBelow bel (by omega) _ _ _ _ _ _ _ _⟩
 ·exact set8_at ((hb5.block _ l1).trans h1) _ _ _ _ _ _ _ _
 ·rw[setOther (by omega)];exact(hb5.block _ l0).trans h0
theorem BytesA.back {a:Option Addr}{n c:Nat}{l:List UInt8}(h:BytesA W a n c l)(hb:Below w.heap.size w W)(hg:∀g o,a=some ⟨g,o,none⟩→g<w.heap.size):BytesA w a n c l:=
 ⟨h.len,h.cap,h.small,hg,fun i hi=>by
  obtain⟨g,o,e,hc⟩:=h.by_ i hi;exact⟨g,o,e,(hb.cell (p:=⟨g,o+i,none⟩) (hg g o e)).symm.trans hc⟩⟩
theorem RdrAt.below (R:RdrAt w D hb t s)(h:Below w.heap.size w w'):RdrAt w' D hb t s:=by
 obtain⟨⟨v,u,hD,H,hiv⟩,hne⟩:=R;exact⟨⟨v,u,(h.block D (blkLt hD)).trans hD,H.other (fun k hk=>h.block k (H.lt k hk)),hiv⟩,hne⟩
theorem set6_other {k:Nat}(hk:k≠S)(v0 v1 v2 v3 v4 v5:Value):((((((w.setCell ⟨S,0,none⟩ v0).setCell ⟨S,1,none⟩ v1).setCell ⟨S,2,none⟩ v2).setCell ⟨S,3,none⟩ v3).setCell ⟨S,4,none⟩ v4).setCell ⟨S,5,none⟩ v5).heap[k]?=w.heap[k]?:=by
 rw[Below.heap_setCell _ ⟨S,5,none⟩ _ _ hk,Below.heap_setCell _ ⟨S,4,none⟩ _ _ hk,Below.heap_setCell _ ⟨S,3,none⟩ _ _ hk,Below.heap_setCell _ ⟨S,2,none⟩ _ _ hk,Below.heap_setCell _ ⟨S,1,none⟩ _ _ hk,Below.heap_setCell _ ⟨S,0,none⟩ _ _ hk]
theorem set6_size (w:World)(S:Nat)(v0 v1 v2 v3 v4 v5:Value):
 ((((((w.setCell ⟨S,0,none⟩ v0).setCell ⟨S,1,none⟩ v1).setCell ⟨S,2,none⟩ v2).setCell ⟨S,3,none⟩ v3).setCell ⟨S,4,none⟩ v4).setCell ⟨S,5,none⟩ v5).heap.size=w.heap.size:=by simp
theorem set6_below {a:World}{B:Nat}(hb:Below B a w)(hS:B≤S)(v0 v1 v2 v3 v4 v5:Value):
 Below B a ((((((w.setCell ⟨S,0,none⟩ v0).setCell ⟨S,1,none⟩ v1).setCell ⟨S,2,none⟩ v2).setCell ⟨S,3,none⟩ v3).setCell ⟨S,4,none⟩ v4).setCell ⟨S,5,none⟩ v5):=
 (((((hb.setCell (p:=⟨S,0,none⟩) hS _).setCell (p:=⟨S,1,none⟩) hS _).setCell (p:=⟨S,2,none⟩) hS _).setCell (p:=⟨S,3,none⟩) hS _).setCell (p:=⟨S,4,none⟩) hS _).setCell (p:=⟨S,5,none⟩) hS _
theorem RdrAt.lt (R:RdrAt w D hb t s):D<w.heap.size∧∀b,hb=some b→b<w.heap.size:=by
 obtain⟨⟨v,u,hD,H,hiv⟩,hne⟩:=R;exact⟨blkLt hD,H.lt⟩
theorem RdrAt.other (R:RdrAt w D hb t s)(h1:w'.heap[D]?=w.heap[D]?)(h2:∀b,hb=some b→w'.heap[b]?=w.heap[b]?):RdrAt w' D hb t s:=by
 obtain⟨⟨v,u,hD,H,hiv⟩,hne⟩:=R;exact⟨⟨v,u,h1.trans hD,H.other h2,hiv⟩,hne⟩
theorem KeysIn.apart {lo b u:Nat}{Z:Array Value}(R:RdrAt W D hb t s)(hZ:W.heap[b]?=some (.cells Z 9 (0,0))):b≠D∧some b≠hb:=by
 obtain⟨⟨v,u,hD,⟨⟨all,⟨h1,h2⟩,h3⟩,hbk⟩,hiv⟩,hne⟩:=R;refine⟨?_,?_⟩
 ·rintro rfl;rw[hD]at hZ;simp[rdO]at hZ
 ·rintro rfl;rcases h2 with⟨rfl,_⟩|⟨g,cap,cur,rfl,_,hg,_⟩
  ·cases hbk
  ·cases hbk;rw[hg]at hZ;simp at hZ
theorem read_fin {wc w8:World}{s2:St}{kv:Value}{ks:List ByteArray}(hbel:Below w.heap.size w wc)(R:RdrAt w D hb t s)(T:RdrTo wc w8 D hb t s2)(hk:KeysIn wc w.heap.size kv ks)(h0:wc.heap[w.heap.size]?=some (.cells zCmd 36 (0,0)))(v0 v1 v2 v3 v4 v5:Value):RdrTo w ((((((w8.setCell ⟨w.heap.size,0,none⟩ v0).setCell ⟨w.heap.size,1,none⟩ v1).setCell ⟨w.heap.size,2,none⟩ v2).setCell ⟨w.heap.size,3,none⟩ v3).setCell ⟨w.heap.size,4,none⟩ v4).setCell ⟨w.heap.size,5,none⟩ v5) D hb t s2∧KeysIn ((((((w8.setCell ⟨w.heap.size,0,none⟩ v0).setCell ⟨w.heap.size,1,none⟩ v1).setCell ⟨w.heap.size,2,none⟩ v2).setCell ⟨w.heap.size,3,none⟩ v3).setCell ⟨w.heap.size,4,none⟩ v4).setCell ⟨w.heap.size,5,none⟩ v5) w.heap.size kv ks:=by
 obtain⟨⟨hb2,R2,F2⟩,T2⟩:=T;obtain⟨lD,lb⟩:=R.lt;have Rc:=R.below hbel;have l0:=blkLt h0;refine⟨⟨⟨hb2,R2.other (set6_other (by omega) _ _ _ _ _ _) (fun b hb'=>set6_other ?_ _ _ _ _ _ _),?_⟩,?_⟩,?_⟩
 ·rcases F2 with h|h|⟨k,h,hk'⟩
  ·have:=lb b (by rw[←h];exact hb');omega
  ·rw[h]at hb';cases hb'
  ·rw[h]at hb';cases hb';omega
 ·exact Fresh.trans (a:=w) (.inl rfl) F2 hbel.size
 ·refine⟨?_,?_,?_,?_,fun k hk' hn hh=>?_⟩
  ·have:=set6_below (Below.refl 0 w8) (Nat.zero_le w.heap.size) v0 v1 v2 v3 v4 v5;rw[this.os,T2.os,hbel.os]
  ·have:=set6_below (Below.refl 0 w8) (Nat.zero_le w.heap.size) v0 v1 v2 v3 v4 v5;rw[this.tape,T2.tape,hbel.tape]
  ·have:=set6_below (Below.refl 0 w8) (Nat.zero_le w.heap.size) v0 v1 v2 v3 v4 v5;rw[this.output,T2.output,hbel.output]
  ·rw[set6_size];exact Nat.le_trans hbel.size T2.size
  ·rw[set6_other (by omega),T2.block k (by omega) hn hh,hbel.block k hk']
 ·refine hk.other (Nat.le_refl _) (fun b c Z hZ hz hl=>?_);obtain⟨a1,a2⟩:=KeysIn.apart (lo:=0) (u:=0) Rc hZ;rw[set6_other ?_,T2.block b (blkLt hZ) a1 a2];rintro rfl;rw[h0]at hZ;simp at hZ
def ReadOut (w w':World)(D:Nat)(hb:Option Nat)(t:Nat)(s:St)(r:Option StepR)(e:Ending):Prop:=
 match r with
 |none=>e= .returned (.tuple #[.agg zCmd,.bool false])∧RdrAt w' D hb t s∧Below w.heap.size w w'
 |some x=>∃ka kn kc,e= .returned (.tuple #[.agg #[.int .i64 x.c.kind,.slice ka kn kc,.string x.c.val,.string x.c.word,.bool x.c.fatal,.int .i64 x.c.id],.bool true])∧KeysIn w' w.heap.size (.slice ka kn kc) x.c.keys∧RdrTo w w' D hb t (afterS s x)
theorem readRdP (t f:Nat)(d:Int)(hm:∀w:World,(method 432 t (.agg #[]) "Read").run Tryz.prog w= .ok (f,.agg #[]) w)(hn:∀w:World,(nilAhead 432 t (.agg #[]) "Read").run Tryz.prog w= .ok (some false) w)(hcf:∀(xs:Array Value) (w:World),(callFunc f xs).run Tryz.prog w= .ok (.enter f xs) w)(D:Nat)(hb:Option Nat)(s:St)(hRd:∀W a c,BytesA W a s.held.length c s.held→(a=none→c=0)→Calls Tryz.prog f #[.agg #[],.slice a s.held.length c] W fun e w'=>StepOut W w' (readR d s.held) e∧Below W.heap.size W w')(w:World)(R:RdrAt w D hb t s)(hsm:s.held.length≤140737488355328):Calls Tryz.prog 121 #[.pointer (some ⟨D,0,none⟩)] w fun e w'=>ReadOut w w' D hb t s (readR d s.held) e:=by
 have HR:=hide' R;obtain⟨⟨v,u,hD,H,hiv⟩,hne⟩:=R;obtain⟨d0,d1,d2,d3,d4,df⟩:=rdCells hD;have hlt:=blkLt hD;have hkeep:∀W,Below w.heap.size w W→RdrAt W D hb t s:=fun W hW=>HR.out.below hW
 have HKp:=hide' hkeep;have HWt:Hid (∀W,Below w.heap.size w W→Calls Tryz.prog 125 #[.pointer (some ⟨D,1,none⟩)] W fun e w'=>(∃a c,e= .returned (.slice a s.held.length c)∧BytesA w a s.held.length c s.held∧(a=none→c=0))∧∃q,w'=W.drewN q):=fun W hW=>by
  have hDW:=(hW.block D hlt).trans hD;obtain⟨e0,e1,e2,_⟩:=rdCells hDW;refine(waiting_any D u v hb s.held W (H.other (fun k hk=>hW.block k (H.lt k hk))) e1 e2).mono ?_;rintro e w' ⟨⟨a,c,he,hBA,hnil,hgb⟩,hq⟩;exact⟨⟨a,c,he,hBA.back hW (fun g o ha=>H.lt g (hgb g o ha)),hnil⟩,hq⟩
 have HRd:=hide' hRd;have HRT:=hide' (fun(x:StepR) (hx:readR d s.held=some x)=>(readR_mono [] hx).2);generalize readR d s.held=RR at*;have hl:=s.held.length;clear hl hkeep hD H;have ne1:¬w.heap.size+1=D:=by omega
 have ne2:¬D=w.heap.size+1:=by omega
 have ne3:¬w.heap.size=D:=by omega
 have ne4:¬D=w.heap.size:=by omega
 generalize hnl:s.held.length=nl at*;have HNL:=hide' hnl;clear hnl;go_enter Tryz.func121,Tryz.ntmps121;go_wp2;go_cut [4]from 5 (fun s4 W=>∃S sv,s4= .pointer (some ⟨S,0,none⟩)∧StepRd w W S sv RR)
 case first=>
  go_region_held3 (fun w'=>w'.cell? ⟨D,0,none⟩=some (.iface t (.agg #[]))) (go_keep)
   (first
    |(go_at_call 125;refine(HWt.out _ ?hx).mono ?_;(case hx=>repeat(first|with_reducible exact Below.refl _ _|with_reducible refine Below.drew ?_|with_reducible refine below_drewN ?_ _|with_reducible refine Below.alloc ?_ (by simp;try omega) _|with_reducible refine Below.setCell ?_ (by simp;try omega) _));rintro e w' ⟨⟨a,c,rfl,hBA,hnil⟩,q,rfl⟩;have HBA:=hide' (And.intro hBA hnil);clear hBA hnil)
    |(with_reducible (show Calls Tryz.prog f _ _ _);refine(HRd.out _ a c ?hx HBA.out.2).mono ?_;(case hx=>exact HBA.out.1.later (by repeat(first|with_reducible exact Below.refl _ _|with_reducible refine Below.drew ?_|with_reducible refine below_drewN ?_ _|with_reducible refine Below.alloc ?_ (by simp;try omega) _|with_reducible refine Below.setCell ?_ (by simp;try omega) _)));rintro e w5 ⟨he5,hB5⟩;obtain⟨sv,he6,hsv⟩:=stepOut_sv he5;subst he6;have hS5:=(hB5.cell (p:=⟨D,0,none⟩) (by simp;omega));obtain⟨hc5,hf5⟩:=bcell2 hB5;have hz5:=hB5.size;have HB5:=hide' hB5;have HSV:=hide' hsv;clear hB5 hsv he5))
  ·go_wp2_with fail
   go_meet
   case rel=>
    have q:=HB5.out;have k1:=HSV.out;clear HWt HRd HRT HB5 HSV hc5 hf5 hm hn;refine⟨w5.heap.size,sv,rfl,stepRd_new ?_ ?_ q k1⟩
    ·repeat(first|with_reducible exact Below.refl _ _|with_reducible refine Below.drew ?_|with_reducible refine below_drewN ?_ _|with_reducible refine Below.alloc ?_ (by simp;try omega) _|with_reducible refine Below.setCell ?_ (by simp;try omega) _)
    ·exact blkNew w (.cells zCmd 36 (0,0))
  all_goals
   go_wp2_with fail
   go_meet
   case rel=>
    have q:=HB5.out;have k1:=HSV.out;clear HWt HRd HRT HB5 HSV hc5 hf5 hm hn;refine⟨w.heap.size+1,sv,rfl,stepRd_set ?_ ?_ ?_ q k1⟩
    ·repeat(first|with_reducible exact Below.refl _ _|with_reducible refine Below.drew ?_|with_reducible refine below_drewN ?_ _|with_reducible refine Below.alloc ?_ (by simp;try omega) _|with_reducible refine Below.setCell ?_ (by simp;try omega) _)
    ·exact(Below.heap_alloc (w.alloc (.cells zCmd 36 (0,0))) _ _ (by simp)).trans (blkNew w _)
    ·have:=blkNew (w.alloc (.cells zCmd 36 (0,0))) (.cells zStep 255 (0,0));rw[World.size_alloc]at this;exact this
 case rest=>
  obtain⟨S,sv,rfl,R⟩:=hcut;have s0:=blkCell R.hS 0;have s1:=blkCell R.hS 1;have s2:=blkCell R.hS 2;have s3:=blkCell R.hS 3;have s4:=blkCell R.hS 4;have s5:=blkCell R.hS 5;have s6:=blkCell R.hS 6;have s7:=blkCell R.hS 7;have y0:=blkCell R.h0 0;have y1:=blkCell R.h0 1;have y2:=blkCell R.h0 2;have y3:=blkCell R.h0 3;have y4:=blkCell R.h0 4;have y5:=blkCell R.h0 5;have yf:=blkFree R.h0;have hzS:=blkLt R.hS;have hz0:=blkLt R.h0;have lS:=R.lS;have HR2:=hide' R;clear R HWt HRd hm hn;simp[SV.arr]at s0 s1 s2 s3 s4 s5 s6 s7;simp[zCmd]at y0 y1 y2 y3 y4 y5;cases RR with
  |none=>
   have hsv:sv=⟨0,none,0,0,⟨#[]⟩,⟨#[]⟩,false,0,0,false⟩:=HR2.out.is;subst hsv;go_wp2;refine bodyPost_ret (v:= .tuple #[.agg zCmd,.bool false]) (by simp[results,Tryz.results121,go_sem,zCmd,y0,y1,y2,y3,y4,y5]) rfl ?_;have hb:=HR2.out.bel;have hb2:=(((((hb.setCell (p:=⟨w.heap.size,0,none⟩) (Nat.le_refl _) (.int .i64 0)).setCell (p:=⟨w.heap.size,1,none⟩) (Nat.le_refl _) (.slice none 0 0)).setCell (p:=⟨w.heap.size,2,none⟩) (Nat.le_refl _) (.string ⟨#[]⟩)).setCell (p:=⟨w.heap.size,3,none⟩) (Nat.le_refl _) (.string ⟨#[]⟩)).setCell (p:=⟨w.heap.size,4,none⟩) (Nat.le_refl _) (.bool false)).setCell (p:=⟨w.heap.size,5,none⟩) (Nat.le_refl _) (.int .i64 0);exact⟨rfl,HKp.out _ hb2,hb2⟩
  |some x=>
   obtain⟨us1,us2⟩:=HRT.out x rfl;obtain⟨k,ka,kn,kc,val,wd,ft,id,used,sk⟩:=sv;obtain⟨i1,i2,i3,i4,i5,i6,i7,i8⟩:=HR2.out.is;simp only at i1 i2 i3 i4 i5 i6 i7 i8 s0 s1 s2 s3 s4 s5 s6 s7;subst i1;subst i3;subst i4;subst i5;subst i6;subst i7;subst i8;have HKI:=hide' i2;clear i2;have hu0:((x.used:Int)==0)=false:=by rw[beq_eq_false_iff_ne];omega
   have HUs:=hide' (fun W (hW:Below w.heap.size w W)=>use_any D t x.used hb s W (HKp.out W hW) (by rw[HNL.out];exact us2));have hE:afterS s x=(if x.c.fatal then⟨[],false,true⟩else if x.skip then⟨(passL (s.held.drop x.used)).1,(passL (s.held.drop x.used)).2,s.closed⟩else⟨s.held.drop x.used,s.pass,s.closed⟩):=rfl;have HE:=hide' hE;clear hE;have hdl:(s.held.drop x.used).length≤140737488355328:=by rw[List.length_drop,HNL.out];omega
   have HPL:=hide' (fun W hb' (R:RdrAt W D hb' t ⟨s.held.drop x.used,s.pass,s.closed⟩)=>passLine_any D t hb' ⟨s.held.drop x.used,s.pass,s.closed⟩ W R hdl);have HCl:=hide' (fun W hb' s' (R:RdrAt W D hb' t s')=>close_any D t hb' s' W R);have hDS:S≠D:=by omega
   have hbS:∀T2:Nat,w.heap.size≤T2→some T2≠hb:=fun T2 h2 e=>by have:=(HR.out.lt).2 T2 e.symm;omega
   have HbS:=hide' hbS;clear hdl hbS;go_wp2;go_region_held3 (fun w'=>w'.cell? ⟨S,6,none⟩=some (.int .i64 (x.used:Int))) (go_keep)
    (first|(go_at_call 126;refine(HUs.out _ ?hx).mono ?_;(case hx=>exact HR2.out.bel.drew);rintro r w6 ⟨rfl,T6⟩;have hS6:=(World.cell?_of_block (w:=wc.drew) (a:=⟨S,6,none⟩) (T6.turn.block S hzS hDS (HbS.out S (by omega))));have HT6:=hide' (T6.after (Turn2.of_turn ((Turn.refl D wc).drew)));clear T6))
   have tS:=(HT6.out.turn.block S hzS hDS (HbS.out S (by omega))).trans HR2.out.hS;have t0:=(HT6.out.turn.block w.heap.size hz0 ne3 (HbS.out _ (Nat.le_refl _))).trans HR2.out.h0;have z6:=HT6.out.turn.size;clear s0 s1 s2 s3 s4 s5 s6 s7 y0 y1 y2 y3 y4 y5 yf hS6 HUs;have x4:=blkCell tS 4;have x7:=blkCell tS 7;have HtS:=hide' (And.intro tS t0);simp[SV.arr]at x4 x7;clear tS t0;cases hsk:x.skip with
   |false=>
    rw[hsk]at x7;cases hft:x.c.fatal with
    |false=>
     rw[hft]at x4;have hA:afterS s x=⟨s.held.drop x.used,s.pass,s.closed⟩:=by rw[HE.out,hft,hsk];rfl
     have tS:=HtS.out.1;have t0:=HtS.out.2;have a0:=blkCell tS 0;have a1:=blkCell tS 1;have a2:=blkCell tS 2;have a3:=blkCell tS 3;have a4:=blkCell tS 4;have a5:=blkCell tS 5;have b0:=blkCell t0 0;have b1:=blkCell t0 1;have b2:=blkCell t0 2;have b3:=blkCell t0 3;have b4:=blkCell t0 4;have b5:=blkCell t0 5;have bf:=blkFree t0;simp[SV.arr]at a0 a1 a2 a3 a4 a5;simp[zCmd]at b0 b1 b2 b3 b4 b5;rw[hft]at a4;have nS0:¬S=w.heap.size:=by omega
     clear tS t0 HPL HCl;go_wp2;refine bodyPost_ret (v:= .tuple #[.agg #[.int .i64 x.c.kind,.slice ka kn kc,.string x.c.val,.string x.c.word,.bool false,.int .i64 x.c.id],.bool true]) (by simp[results,Tryz.results121,go_sem,b0,b1,b2,b3,b4,b5]) rfl ?_;have hf:=read_fin (kv:= .slice ka kn kc) HR2.out.bel HR.out HT6.out HKI.out HR2.out.h0 (.int .i64 x.c.kind) (.slice ka kn kc) (.string x.c.val) (.string x.c.word) (.bool false) (.int .i64 x.c.id);refine⟨ka,kn,kc,by rw[hft],hf.2,?_⟩;rw[hA];exact hf.1
    |true=>
     rw[hft]at x4;have hA:afterS s x=⟨[],false,true⟩:=by rw[HE.out,hft];rfl
     go_wp2_with fail
     go_at_call 154;obtain⟨hb6,R6,F6⟩:=HT6.out.ex;refine(HCl.out _ hb6 _ R6).mono ?_;rintro r w8 ⟨rfl,T8⟩;have HT8:=hide' (show RdrTo wc w8 D hb t _ from⟨⟨T8.ex.choose,T8.ex.choose_spec.1,F6.trans T8.ex.choose_spec.2 HT6.out.turn.size⟩,HT6.out.turn.trans T8.turn F6⟩);have tS8:=(HT8.out.turn.block S hzS hDS (HbS.out S (by omega))).trans HR2.out.hS;have t08:=(HT8.out.turn.block w.heap.size hz0 ne3 (HbS.out _ (Nat.le_refl _))).trans HR2.out.h0;have z8:=HT8.out.turn.size;clear x4 T8 R6 F6 HtS;have HtS:=hide' (And.intro tS8 t08);clear tS8 t08;have tS:=HtS.out.1;have t0:=HtS.out.2;have a0:=blkCell tS 0;have a1:=blkCell tS 1;have a2:=blkCell tS 2;have a3:=blkCell tS 3;have a4:=blkCell tS 4;have a5:=blkCell tS 5
     have b0:=blkCell t0 0;have b1:=blkCell t0 1;have b2:=blkCell t0 2;have b3:=blkCell t0 3;have b4:=blkCell t0 4;have b5:=blkCell t0 5;have bf:=blkFree t0;simp[SV.arr]at a0 a1 a2 a3 a4 a5;simp[zCmd]at b0 b1 b2 b3 b4 b5;rw[hft]at a4;have nS0:¬S=w.heap.size:=by omega
     clear tS t0 HPL HCl;go_wp2;refine bodyPost_ret (v:= .tuple #[.agg #[.int .i64 x.c.kind,.slice ka kn kc,.string x.c.val,.string x.c.word,.bool true,.int .i64 x.c.id],.bool true]) (by simp[results,Tryz.results121,go_sem,b0,b1,b2,b3,b4,b5]) rfl ?_;have hf:=read_fin (kv:= .slice ka kn kc) HR2.out.bel HR.out HT8.out HKI.out HR2.out.h0 (.int .i64 x.c.kind) (.slice ka kn kc) (.string x.c.val) (.string x.c.word) (.bool true) (.int .i64 x.c.id);refine⟨ka,kn,kc,by rw[hft],hf.2,?_⟩;rw[hA];exact hf.1
   |true=>
    rw[hsk]at x7;go_wp2_with fail
    go_at_call 88;obtain⟨hb6,R6,F6⟩:=HT6.out.ex;refine(HPL.out _ hb6 R6).mono ?_;rintro r w7 ⟨rfl,T7⟩;have HT7:=hide' (show RdrTo wc w7 D hb t _ from⟨⟨T7.ex.choose,T7.ex.choose_spec.1,F6.trans T7.ex.choose_spec.2 HT6.out.turn.size⟩,HT6.out.turn.trans T7.turn F6⟩);have tS7:=(HT7.out.turn.block S hzS hDS (HbS.out S (by omega))).trans HR2.out.hS;have t07:=(HT7.out.turn.block w.heap.size hz0 ne3 (HbS.out _ (Nat.le_refl _))).trans HR2.out.h0;have z7:=HT7.out.turn.size;clear x4 x7 T7 R6 F6 HtS;have x4:=blkCell tS7 4;have HtS:=hide' (And.intro tS7 t07);simp[SV.arr]at x4;clear tS7 t07;cases hft:x.c.fatal with
    |false=>
     rw[hft]at x4;have hA:afterS s x=⟨(passL (s.held.drop x.used)).1,(passL (s.held.drop x.used)).2,s.closed⟩:=by rw[HE.out,hft,hsk];rfl
     have tS:=HtS.out.1;have t0:=HtS.out.2;have a0:=blkCell tS 0;have a1:=blkCell tS 1;have a2:=blkCell tS 2;have a3:=blkCell tS 3;have a4:=blkCell tS 4;have a5:=blkCell tS 5;have b0:=blkCell t0 0;have b1:=blkCell t0 1;have b2:=blkCell t0 2;have b3:=blkCell t0 3;have b4:=blkCell t0 4;have b5:=blkCell t0 5;have bf:=blkFree t0;simp[SV.arr]at a0 a1 a2 a3 a4 a5;simp[zCmd]at b0 b1 b2 b3 b4 b5;rw[hft]at a4;have nS0:¬S=w.heap.size:=by omega
     clear tS t0 HPL HCl;go_wp2;refine bodyPost_ret (v:= .tuple #[.agg #[.int .i64 x.c.kind,.slice ka kn kc,.string x.c.val,.string x.c.word,.bool false,.int .i64 x.c.id],.bool true]) (by simp[results,Tryz.results121,go_sem,b0,b1,b2,b3,b4,b5]) rfl ?_;have hf:=read_fin (kv:= .slice ka kn kc) HR2.out.bel HR.out HT7.out HKI.out HR2.out.h0 (.int .i64 x.c.kind) (.slice ka kn kc) (.string x.c.val) (.string x.c.word) (.bool false) (.int .i64 x.c.id);refine⟨ka,kn,kc,by rw[hft],hf.2,?_⟩;rw[hA];exact hf.1
    |true=>
     rw[hft]at x4;have hA:afterS s x=⟨[],false,true⟩:=by rw[HE.out,hft];rfl
     go_wp2_with fail
     go_at_call 154;obtain⟨hb6,R6,F6⟩:=HT7.out.ex;refine(HCl.out _ hb6 _ R6).mono ?_;rintro r w8 ⟨rfl,T8⟩;have HT8:=hide' (show RdrTo wc w8 D hb t _ from⟨⟨T8.ex.choose,T8.ex.choose_spec.1,F6.trans T8.ex.choose_spec.2 HT7.out.turn.size⟩,HT7.out.turn.trans T8.turn F6⟩);have tS8:=(HT8.out.turn.block S hzS hDS (HbS.out S (by omega))).trans HR2.out.hS;have t08:=(HT8.out.turn.block w.heap.size hz0 ne3 (HbS.out _ (Nat.le_refl _))).trans HR2.out.h0;have z8:=HT8.out.turn.size;clear x4 T8 R6 F6 HtS;have HtS:=hide' (And.intro tS8 t08);clear tS8 t08;have tS:=HtS.out.1;have t0:=HtS.out.2;have a0:=blkCell tS 0;have a1:=blkCell tS 1;have a2:=blkCell tS 2;have a3:=blkCell tS 3;have a4:=blkCell tS 4;have a5:=blkCell tS 5
     have b0:=blkCell t0 0;have b1:=blkCell t0 1;have b2:=blkCell t0 2;have b3:=blkCell t0 3;have b4:=blkCell t0 4;have b5:=blkCell t0 5;have bf:=blkFree t0;simp[SV.arr]at a0 a1 a2 a3 a4 a5;simp[zCmd]at b0 b1 b2 b3 b4 b5;rw[hft]at a4;have nS0:¬S=w.heap.size:=by omega
     clear tS t0 HPL HCl;go_wp2;refine bodyPost_ret (v:= .tuple #[.agg #[.int .i64 x.c.kind,.slice ka kn kc,.string x.c.val,.string x.c.word,.bool true,.int .i64 x.c.id],.bool true]) (by simp[results,Tryz.results121,go_sem,b0,b1,b2,b3,b4,b5]) rfl ?_;have hf:=read_fin (kv:= .slice ka kn kc) HR2.out.bel HR.out HT8.out HKI.out HR2.out.h0 (.int .i64 x.c.kind) (.slice ka kn kc) (.string x.c.val) (.string x.c.word) (.bool true) (.int .i64 x.c.id);refine⟨ka,kn,kc,by rw[hft],hf.2,?_⟩;rw[hA];exact hf.1
theorem readRd1 (D:Nat)(hb:Option Nat)(s:St)(w:World)(R:RdrAt w D hb 160 s)(hsm:s.held.length≤140737488355328):Calls Tryz.prog 121 #[.pointer (some ⟨D,0,none⟩)] w fun e w'=>ReadOut w w' D hb 160 s (readR 1 s.held) e:=by
 refine readRdP 160 211 1 (fun w=>by kernel_rfl) (fun w=>by kernel_rfl) (fun xs w=>by simp[callFunc,go_sem,Tryz.func211];kernel_rfl) D hb s (fun W a c hB hn=>?_) w R hsm;have hr:readR 1 s.held=lnR s.held:=by simp[readR]
 rw[hr];exact lnRead_any a _ c s.held W hB hn
theorem readRd2 (D:Nat)(hb:Option Nat)(s:St)(w:World)(R:RdrAt w D hb 161 s)(hsm:s.held.length≤140737488355328):Calls Tryz.prog 121 #[.pointer (some ⟨D,0,none⟩)] w fun e w'=>ReadOut w w' D hb 161 s (readR 2 s.held) e:=by
 refine readRdP 161 244 2 (fun w=>by kernel_rfl) (fun w=>by kernel_rfl) (fun xs w=>by simp[callFunc,go_sem,Tryz.func244];kernel_rfl) D hb s (fun W a c hB hn=>?_) w R hsm;have hr:readR 2 s.held=frR s.held:=by simp[readR]
 rw[hr];exact by
  cases Nat.eq_zero_or_pos s.held.length with
  |inl h0=>
   have hnil:s.held=[]:=List.length_eq_zero_iff.1 h0;rw[hnil];exact frRead_short 0 0 0 c a W (by omega)
  |inr h1=>
   obtain⟨g,o,rfl,hBI⟩:=hB.in_ h1;exact frRead_any g o _ c s.held W hBI
theorem readRd3 (D:Nat)(hb:Option Nat)(s:St)(w:World)(R:RdrAt w D hb 162 s)(hsm:s.held.length≤140737488355328):Calls Tryz.prog 121 #[.pointer (some ⟨D,0,none⟩)] w fun e w'=>ReadOut w w' D hb 162 s (readR 3 s.held) e:=by
 refine readRdP 162 251 3 (fun w=>by kernel_rfl) (fun w=>by kernel_rfl) (fun xs w=>by simp[callFunc,go_sem,Tryz.func251];kernel_rfl) D hb s (fun W a c hB hn=>?_) w R hsm;have hr:readR 3 s.held=lsR s.held:=by simp[readR]
 rw[hr];exact lsRead_any a _ c s.held W hB
end Go.Proofs.YtlonjggfnleolaaGreatDoor
