import Derived.Test.YtlonjggfnleolaaGreatDoorJuQa
import Derived.Test.YtlonjggfnleolaaGreatDoorKey
namespace Go.Proofs.YtlonjggfnleolaaGreatDoor
open Go.RowKit
set_option linter.unusedVariables false
set_option maxHeartbeats 1000000
variable {w:World}{a:Option Addr}{n c:Nat}{xs:List Int}
structure RawIn (w:World)(a:Option Addr)(n c:Nat)(xs:List Int):Prop where
 len:xs.length=n
 cap:n≤c
 small:n≤140737488355328
 ag:∀g o,a=some ⟨g,o,none⟩→1≤n→g<w.heap.size
 by_:∀i,i<n→∃g o,a=some ⟨g,o,none⟩∧w.cell? ⟨g,o+i,none⟩=some (.int .i64 (xs.getD i 0))
 wf:∀i,i<n→(Lit.int .i64 (xs.getD i 0)).wf=true
theorem RawIn.later {w':World}(h:RawIn w a n c xs)(hb:Below w.heap.size w w'):RawIn w' a n c xs:=
 ⟨h.len,h.cap,h.small,fun g o e h1=>Nat.lt_of_lt_of_le (h.ag g o e h1) hb.size,fun i hi=>by
  obtain⟨g,o,e,hc⟩:=h.by_ i hi;exact⟨g,o,e,(hb.cell (p:=⟨g,o+i,none⟩) (h.ag g o e (by omega))).trans hc⟩,h.wf⟩
def rawN (xs:List Int)(i:Nat):Int:=if xs.length=0 then 0 else xs.getD (i % xs.length) 0
theorem rawN_wf (h:RawIn w a n c xs)(i:Nat):(Lit.int .i64 (rawN xs i)).wf=true:=by
 unfold rawN;split
 ·rfl
 ·rename_i h0;have:=h.len;exact h.wf _ (by have:=Nat.mod_lt i (show 0<xs.length by omega);omega)
theorem raw_any (a:Option Addr)(n c:Nat)(xs:List Int)(i:Nat)(w:World)(h:RawIn w a n c xs)(hi:i≤140737488355328):Calls Tryz.prog 37 #[.slice a n c,.int .i64 (i:Int)] w fun e w'=>e= .returned (.int .i64 (rawN xs i))∧w'=w:=by
 have hl:=h.len;have hsm:=h.small;by_cases h0:n=0
 ·subst h0;have hr:rawN xs i=0:=by unfold rawN;rw[if_pos hl]
  rw[hr];clear h hl hr;go_enter Tryz.func37,Tryz.ntmps37;go_wp2;go_ret;exact⟨rfl,rfl⟩
 ·have hr:rawN xs i=xs.getD (i % n) 0:=by unfold rawN;rw[if_neg (by omega),hl]
  rw[hr];have hm:i % n<n:=Nat.mod_lt i (by omega);obtain⟨g,o,rfl,hc⟩:=h.by_ (i % n) hm;generalize xs.getD (i % n) 0=x at*;have h0':((n:Int)==0)=false:=by rw[beq_eq_false_iff_ne];omega
  have hmm:(i:Int) % (n:Int)=((i % n:Nat):Int):=by simp
  obtain⟨m,hmd⟩:∃m,i % n=m:=⟨_,rfl⟩
  rw[hmd]at hm hc hmm;have hm':(m:Int)<(n:Int):=by omega
  have hnz:¬(n:Int)=0:=by omega
  clear h hl hr hmd;go_enter Tryz.func37,Tryz.ntmps37;go_wp2;go_ret;exact⟨rfl,rfl⟩
theorem pick_big (c:Int)(n:Nat)(w:World)(hc:(Lit.int .i64 c).wf=true)(hn:0<n)(hn2:n≤140737488355328):Calls Tryz.prog 17 #[.int .i64 c,.int .i64 n] w fun e w'=>e= .returned (.int .i64 (pickN c n))∧w'=w:=by
 obtain⟨b1,b2⟩:=bounds_i64 hc;by_cases h:c<0
 ·go_enter Tryz.func17,Tryz.ntmps17;go_wp2;go_ret;refine⟨ret_int ?_,rfl⟩;rw[pickN_eq c n hn,if_pos h,←Int.neg_tmod,Int.tmod_eq_emod_of_nonneg (by omega)]
 ·have h':¬c<0:=h;go_enter Tryz.func17,Tryz.ntmps17;go_wp2;go_ret;refine⟨ret_int ?_,rfl⟩;rw[pickN_eq c n hn,if_neg (by omega)]
theorem keysIn_cells {W:World}{lo:Nat}{ss:List ByteArray}(h:KeysIn W lo (.slice a n c) ss):ss.length=n∧n≤c∧∀i s,ss[i]?=some s→∃g,a=some ⟨g,0,none⟩∧g<W.heap.size∧W.cell? ⟨g,i,none⟩=some (.string s):=by
 rcases h with⟨h,rfl⟩|⟨b,c',h,_,Z,hZ,hz,hl,hi⟩
 ·cases h;exact⟨rfl,Nat.le_refl _,fun i s h=>by simp at h⟩
 ·cases h;refine⟨rfl,by omega,fun i s hs=>⟨b,rfl,blkLt hZ,?_⟩⟩;rw[blkCell hZ i];exact hi i s hs
end Go.Proofs.YtlonjggfnleolaaGreatDoor
