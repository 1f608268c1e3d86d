import Derived.Test.YtlonjggfnleolaaGreatDoorReadEx
import Derived.Deep.RegionHeld3
import Derived.Deep.Cut
namespace Go.Proofs.YtlonjggfnleolaaGreatDoor
open Go.RowKit
set_option linter.unusedVariables false
variable {D:Nat}{a w:World}
structure Turn (D:Nat)(w w':World):Prop where
 os:w'.os=w.os
 tape:w'.tape=w.tape
 output:w'.output=w.output
 size:w.heap.size≤w'.heap.size
 block:∀k,k<w.heap.size→k≠D→w'.heap[k]?=w.heap[k]?
theorem Turn.refl (D:Nat)(w:World):Turn D w w:=⟨rfl,rfl,rfl,Nat.le_refl _,fun _ _ _=>rfl⟩
theorem Turn.trans {b c:World}(h:Turn D a b)(k:Turn D b c):Turn D a c:=
 ⟨k.os.trans h.os,k.tape.trans h.tape,k.output.trans h.output,Nat.le_trans h.size k.size,fun i hi hn=>(k.block i (Nat.lt_of_lt_of_le hi h.size) hn).trans (h.block i hi hn)⟩
theorem Turn.of_below {w':World}(h:Below w.heap.size w w'):Turn D w w':=⟨h.os,h.tape,h.output,h.size,fun k hk _=>h.block k hk⟩
theorem Turn.drew (h:Turn D a w):Turn D a w.drew:=⟨h.os,h.tape,h.output,h.size,h.block⟩
theorem Turn.drewN (h:Turn D a w)(n:Nat):Turn D a (w.drewN n):=⟨h.os,h.tape,h.output,h.size,h.block⟩
theorem Turn.alloc (h:Turn D a w)(o:Obj):Turn D a (w.alloc o):=h.trans (.of_below ((Below.refl _ _).alloc (Nat.le_refl _) o))
theorem Turn.setCell (h:Turn D a w)(i:Nat)(v:Value):Turn D a (w.setCell ⟨D,i,none⟩ v):=
 h.trans ⟨by simp[World.setCell],by simp[World.setCell],by simp[World.setCell],by simp,fun k _ hn=>Below.heap_setCell w ⟨D,i,none⟩ v k hn⟩
variable {w:World}{S:Nat}
def zCmd:Array Value:=#[.int .i64 0,.slice none 0 0,.string ⟨#[]⟩,.string ⟨#[]⟩,.bool false,.int .i64 0]
theorem setOther {k:Nat}(hk:k≠S)(v0 v1 v2 v3 v4 v5 v6 v7:Value):((((((((w.setCell ⟨S,0,none⟩ v0).setCell ⟨S,1,none⟩ v1).setCell ⟨S,2,none⟩ v2).setCell ⟨S,3,none⟩ v3).setCell ⟨S,4,none⟩ v4).setCell ⟨S,5,none⟩ v5).setCell ⟨S,6,none⟩ v6).setCell ⟨S,7,none⟩ v7).heap[k]?=w.heap[k]?:=by
 rw[Below.heap_setCell _ ⟨S,7,none⟩ _ _ hk,Below.heap_setCell _ ⟨S,6,none⟩ _ _ hk,Below.heap_setCell _ ⟨S,5,none⟩ _ _ hk,Below.heap_setCell _ ⟨S,4,none⟩ _ _ hk,Below.heap_setCell _ ⟨S,3,none⟩ _ _ hk,Below.heap_setCell _ ⟨S,2,none⟩ _ _ hk,Below.heap_setCell _ ⟨S,1,none⟩ _ _ hk,Below.heap_setCell _ ⟨S,0,none⟩ _ _ hk]
theorem setBelow {a:World}{B:Nat}(hb:Below B a w)(hS:B≤S)(v0 v1 v2 v3 v4 v5 v6 v7:Value):
 Below B a ((((((((w.setCell ⟨S,0,none⟩ v0).setCell ⟨S,1,none⟩ v1).setCell ⟨S,2,none⟩ v2).setCell ⟨S,3,none⟩ v3).setCell ⟨S,4,none⟩ v4).setCell ⟨S,5,none⟩ v5).setCell ⟨S,6,none⟩ v6).setCell ⟨S,7,none⟩ v7):=
 (((((((hb.setCell (p:=⟨S,0,none⟩) hS _).setCell (p:=⟨S,1,none⟩) hS _).setCell (p:=⟨S,2,none⟩) hS _).setCell (p:=⟨S,3,none⟩) hS _).setCell (p:=⟨S,4,none⟩) hS _).setCell (p:=⟨S,5,none⟩) hS _).setCell (p:=⟨S,6,none⟩) hS _).setCell (p:=⟨S,7,none⟩) hS _
end Go.Proofs.YtlonjggfnleolaaGreatDoor
