import Derived.Test.YtlonjggfnleolaaGreatDoorSpec
namespace Go.Proofs.YtlonjggfnleolaaGreatDoor
open Go.RowKit
set_option linter.unusedVariables false
set_option maxHeartbeats 2000000
def saidV (ok:Bool)(s:ByteArray):Value:=bif ok then .tuple #[.string s,.int .i64 0]else .tuple #[.string ⟨#[]⟩,.int .i64 1]
theorem sayable_no (d k:Int)(a:Option Addr)(n c:Nat)(val wd:ByteArray)(ft:Bool)(cid id:Int)(w:World)(h:d<1∨3<d):Calls Tryz.prog 140 #[.int .i64 d,cmdV6 k (.slice a n c) val wd ft cid,.int .i64 id] w fun e w'=>e= .returned (.bool false)∧Below w.heap.size w w':=by
 unfold cmdV6;have hB:∀x,Below w.heap.size w (w.alloc x):=fun x=>(Below.refl _ _).alloc (Nat.le_refl _) _
 have HB:=hide' hB;clear hB;rcases h with h|h
 ·go_enter Tryz.func140,Tryz.ntmps140;go_wp2;go_ret;exact⟨rfl,HB.out _⟩
 ·have h2:¬d<1:=by omega
  go_enter Tryz.func140,Tryz.ntmps140;go_wp2;go_ret;exact⟨rfl,HB.out _⟩
theorem sayable_13 (d k:Int)(a:Option Addr)(n c:Nat)(val wd:ByteArray)(ft:Bool)(cid id:Int)(w:World)(h:d=1∨d=3):Calls Tryz.prog 140 #[.int .i64 d,cmdV6 k (.slice a n c) val wd ft cid,.int .i64 id] w fun e w'=>e= .returned (.bool true)∧Below w.heap.size w w':=by
 unfold cmdV6;have hB:∀x,Below w.heap.size w (w.alloc x):=fun x=>(Below.refl _ _).alloc (Nat.le_refl _) _
 have HB:=hide' hB;clear hB;rcases h with rfl|rfl
 ·go_enter Tryz.func140,Tryz.ntmps140;go_wp2;go_ret;exact⟨rfl,HB.out _⟩
 ·go_enter Tryz.func140,Tryz.ntmps140;go_wp2;go_ret;exact⟨rfl,HB.out _⟩
theorem sayable_2 (k:Int)(a:Option Addr)(n c:Nat)(val wd:ByteArray)(ft:Bool)(cid id:Int)(w:World):Calls Tryz.prog 140 #[.int .i64 2,cmdV6 k (.slice a n c) val wd ft cid,.int .i64 id] w fun e w'=>e= .returned (.bool (frSayB k n id))∧Below w.heap.size w w':=by
 unfold cmdV6;have hB:∀x,Below w.heap.size w (w.alloc x):=fun x=>(Below.refl _ _).alloc (Nat.le_refl _) _
 have HB:=hide' hB;clear hB;by_cases h1:0≤id
 ·by_cases h2:id≤65535
  ·by_cases h3:k=1
   ·subst h3;go_enter Tryz.func140,Tryz.ntmps140;go_wp2;go_ret;exact⟨ret_bool (by rw[beq1 n];simp[frSayB,h1,h2]),HB.out _⟩
   ·have h3':(k != 1)=true:=by simpa using h3
    go_enter Tryz.func140,Tryz.ntmps140;go_wp2;go_ret;exact⟨ret_bool (by simp[frSayB,h1,h2,h3]),HB.out _⟩
  ·have h2':¬id≤65535:=h2;go_enter Tryz.func140,Tryz.ntmps140;go_wp2;go_ret;exact⟨ret_bool (by
    have:decide (id≤65535)=false:=by simpa using h2'
    simp[frSayB,this]),HB.out _⟩
 ·have h1':¬0≤id:=h1;go_enter Tryz.func140,Tryz.ntmps140;go_wp2;go_ret;exact⟨ret_bool (by
   have:decide (0≤id)=false:=by simpa using h1'
   simp[frSayB,this]),HB.out _⟩
theorem sayable_any (d k:Int)(a:Option Addr)(n c:Nat)(val wd:ByteArray)(ft:Bool)(cid id:Int)(w:World):Calls Tryz.prog 140 #[.int .i64 d,cmdV6 k (.slice a n c) val wd ft cid,.int .i64 id] w fun e w'=>e= .returned (.bool (sayB d k n id))∧Below w.heap.size w w':=by
 by_cases g2:d=2
 ·subst g2;have e:sayB 2 k n id=frSayB k n id:=by unfold sayB;rcases frSayB k n id<;>rfl
  rw[e];exact sayable_2 k a n c val wd ft cid id w
 by_cases g:d<1∨3<d
 ·have e:sayB d k n id=false:=by
   unfold sayB dialB;have h1:d≠1:=by omega
   have h3:d≠3:=by omega
   simp[h1,g2,h3]
  rw[e];exact sayable_no d k a n c val wd ft cid id w g
 ·have g':d=1∨d=3:=by omega
  have e:sayB d k n id=true:=by
   unfold sayB dialB;rcases g' with rfl|rfl<;>simp
  rw[e];exact sayable_13 d k a n c val wd ft cid id w g'
def textB (s:ByteArray):ByteArray:=⟨#[36]⟩++sizedB s
theorem refText_any (s:ByteArray)(w:World)(hs:s.size<100):Calls Tryz.prog 143 #[.string s] w fun e w'=>e= .returned (.string (textB s))∧∃q,w'=w.drewN q:=by
 have hd:=dec100_size s.size;have HE:=hide' (show(⟨#[36]⟩:ByteArray)++dec100 s.size++⟨#[10]⟩++s++⟨#[10]⟩=textB s by simp[textB,sizedB,ByteArray.append_assoc]);go_enter Tryz.func143,Tryz.ntmps143;go_wp2_with fail
 go_at_call 142;refine(decimal_any s.size _ hs).mono ?_;rintro e w' ⟨rfl,q,rfl⟩;go_wp2;go_ret;exact⟨ret_str HE.out,_,rfl⟩
end Go.Proofs.YtlonjggfnleolaaGreatDoor
