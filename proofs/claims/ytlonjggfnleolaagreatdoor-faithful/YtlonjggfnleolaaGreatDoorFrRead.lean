import Derived.Test.YtlonjggfnleolaaGreatDoorAsks
import Derived.Laws.Runes
namespace Go.Proofs.YtlonjggfnleolaaGreatDoor
open Go.RowKit
set_option linter.unusedVariables false
set_option maxHeartbeats 2000000
set_option maxRecDepth 20000
theorem num2_any (g p c:Nat)(x y:Nat)(w:World)(hx:x<256)(hy:y<256)(hc:2≤c)(hg:g<w.heap.size)(c0:w.cell? ⟨g,p,none⟩=some (.int .u8 x))(c1:w.cell? ⟨g,p+1,none⟩=some (.int .u8 y)):Calls Tryz.prog 163 #[.slice (some ⟨g,p,none⟩) 2 c] w fun e w'=>e= .returned (.int .i64 (x+256*y:Nat))∧∃q,w'=w.drewN q:=by
 go_enter Tryz.func163,Tryz.ntmps163;go_wp2_with fail
 go_quiet (fail)
 go_wp2;go_ret;refine⟨?_,_,rfl⟩;show Ending.returned (Value.int IntKind.i64 (x+y*256))=_;congr 2;omega
def stepV (k:Int)(kv:Value)(val word:ByteArray)(ft:Bool)(id used:Int)(sk:Bool):Value:= .agg #[.int .i64 k,kv,.string val,.string word,.bool ft,.int .i64 id,.int .i64 used,.bool sk]
theorem wrong_any (word:ByteArray)(used:Int)(w:World):Calls Tryz.prog 218 #[.string word,.int .i64 used] w fun e w'=>e= .returned (stepV 4 (.slice none 0 0) ⟨#[]⟩ word false 0 used false)∧Below w.heap.size w w':=by
 go_enter Tryz.func218,Tryz.ntmps218;go_wp2;refine bodyPost_ret (v:=stepV 4 (.slice none 0 0) ⟨#[]⟩ word false 0 used false) (by simp[results,Tryz.results218,go_sem,stepV]) rfl ⟨rfl,(Below.refl _ _).alloc (Nat.le_refl _) _⟩
theorem fatal_any (word:ByteArray)(used:Int)(w:World):Calls Tryz.prog 247 #[stepV 4 (.slice none 0 0) ⟨#[]⟩ word false 0 used false] w fun e w'=>e= .returned (stepV 4 (.slice none 0 0) ⟨#[]⟩ word true 0 used false)∧Below w.heap.size w w':=by
 unfold stepV;go_enter Tryz.func247,Tryz.ntmps247;go_wp2;refine bodyPost_ret (v:= .agg #[.int .i64 4,.slice none 0 0,.string ⟨#[]⟩,.string word,.bool true,.int .i64 0,.int .i64 used,.bool false]) (by simp[results,Tryz.results247,go_sem]) rfl ⟨rfl,?_⟩;exact((Below.refl _ _).alloc (Nat.le_refl _) _).alloc (by simp) _
def byAt (bs:List UInt8)(i:Nat):Nat:=(bs.getD i 0).toNat
def numAt (bs:List UInt8)(i:Nat):Nat:=byAt bs i+256*byAt bs (i+1)
theorem byAt_lt (bs:List UInt8)(i:Nat):byAt bs i<256:=UInt8.toNat_lt _
structure BytesIn (w:World)(g o n c:Nat)(bs:List UInt8):Prop where
 lt:g<w.heap.size
 len:bs.length=n
 cap:n≤c
 small:n≤1000000000000000
 by_:∀(i:Nat),i<n→w.cell? ⟨g,o+i,none⟩=some (.int .u8 (byAt bs i))
def frHead (bs:List UInt8):Bool:=decide (byAt bs 0=1)&&decide (1≤byAt bs 1)&&decide (byAt bs 1≤3)&&decide (1≤byAt bs 2)&&decide (byAt bs 2≤8)&&(decide (numAt bs 3=0) || (decide (byAt bs 1=2)&&decide (numAt bs 3≤40)))
theorem headMayBe_any (g o n c:Nat)(bs:List UInt8)(w:World)(hB:BytesIn w g o n c bs)(h7:7≤n):Calls Tryz.prog 246 #[.slice (some ⟨g,o,none⟩) n c] w fun e w'=>e= .returned (.bool (frHead bs))∧∃q,w'=w.drewN q:=by
 obtain⟨hlt,hl,hc,sm,hby⟩:=hB;have c0:=hby 0 (by omega);have c1:=hby 1 (by omega);have c2:=hby 2 (by omega);have c3:=hby 3 (by omega);have c4:=hby 4 (by omega);have HN:Hid (∀W:World,W.heap=w.heap→∀c',2≤c'→Calls Tryz.prog 163 #[.slice (some ⟨g,o+3,none⟩) 2 c'] W fun e w'=>e= .returned (.int .i64 (numAt bs 3))∧∃q,w'=W.drewN q):=fun W hW c' hc'=>
  num2_any g (o+3) c' _ _ W (byAt_lt bs 3) (byAt_lt bs 4) hc' (by rw[hW];exact hlt) ((World.cell?_of_block (by rw[hW])).trans c3) ((World.cell?_of_block (by rw[hW])).trans c4)
 clear hby c3 c4;have e0:=byAt_lt bs 0;have e1:=byAt_lt bs 1;have e2:=byAt_lt bs 2;have HS:Hid (frHead bs=(decide (byAt bs 0=1)&&decide (1≤byAt bs 1)&&decide (byAt bs 1≤3)&&decide (1≤byAt bs 2)&&decide (byAt bs 2≤8)&&(decide (numAt bs 3=0) || (decide (byAt bs 1=2)&&decide (numAt bs 3≤40))))):=(show _=_ from rfl)
 generalize frHead bs=R at*;generalize byAt bs 0=x0 at*;generalize byAt bs 1=x1 at*;generalize byAt bs 2=x2 at*;generalize numAt bs 3=N at*;have i1:(1:Int)<(n:Int):=by omega
 have i2:(2:Int)<(n:Int):=by omega
 have i0:(0:Int)<(n:Int):=by omega
 have j1:¬(n:Int)≤1:=by omega
 have i5:(5:Int)≤(c:Int):=by omega
 have n0:0<n:=by omega
 have w1:IntKind.i64.wrap (x1:Int)=x1:=wrap_small _ (by omega) (by omega);have n1:1<n:=by omega
 have n2:2<n:=by omega
 have n5:5≤c:=by omega
 have nc:¬c=3:=by omega
 go_enter Tryz.func246,Tryz.ntmps246;go_wp2_with fail
 go_quiet ((go_at_call 163;exact Calls.quiet_of (HN.out _ (World.heap_drewN _ _) _ (by omega))))
 simp only[Nat.add_zero]at c0;by_cases a0:x0=1;case neg=>
  go_wp2;go_ret;exact⟨ret_bool (by rw[HS.out];simp;omega),_,rfl⟩
 by_cases a1:1≤x1;case neg=>
  go_wp2;go_ret;exact⟨ret_bool (by rw[HS.out];simp;omega),_,rfl⟩
 by_cases a2:x1≤3;case neg=>
  go_wp2;go_ret;exact⟨ret_bool (by rw[HS.out];simp;omega),_,rfl⟩
 by_cases a3:1≤x2;case neg=>
  go_wp2;go_ret;exact⟨ret_bool (by rw[HS.out];simp;omega),_,rfl⟩
 by_cases a4:x2≤8;case neg=>
  go_wp2;go_ret;exact⟨ret_bool (by rw[HS.out];simp;omega),_,rfl⟩
 by_cases a5:N=0;case pos=>
  go_wp2;go_ret;exact⟨ret_bool (by rw[HS.out];simp;omega),_,rfl⟩
 by_cases a6:x1=2;case neg=>
  go_wp2;go_ret;have z0:((N:Int)==0)=false:=by simp;omega
  exact⟨ret_bool (by rw[HS.out];simp[z0,a0,a1,a2,a3,a4,a5,a6]),_,rfl⟩
 by_cases a7:N≤40;case neg=>
  go_wp2;go_ret;have z0:((N:Int)==0)=false:=by simp;omega
  have z1:¬(N:Int)≤40:=by omega
  exact⟨ret_bool (by rw[HS.out];simp[z0,z1,a0,a3,a4,a5,a6,a7]),_,rfl⟩
 go_wp2;go_ret;have z0:((N:Int)==0)=false:=by simp;omega
 have z1:(N:Int)≤40:=by omega
 exact⟨ret_bool (by rw[HS.out];simp[z0,z1,a0,a3,a4,a5,a6,a7]),_,rfl⟩
end Go.Proofs.YtlonjggfnleolaaGreatDoor
