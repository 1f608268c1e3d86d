import Derived.Test.YtlonjggfnleolaaGreatDoorRjL
namespace Go.Proofs.YtlonjggfnleolaaGreatDoor
open Go.RowKit Go.Shelf Go.Proofs.Tryz
set_option linter.unusedVariables false
variable {W:World}{f n c:Nat}{d:List ByteArray}
theorem gF.cell {b o:Nat}(h:gF W f (.slice (some ⟨b,o,none⟩) n c) d){j:Nat}{x:ByteArray}(g:d[j]?=some x):W.cell? ⟨b,o+j,none⟩=some (.string x)/\∃Z,W.heap[b]?=some (.cells Z 9 (0,0)):=by
 rcases h with⟨e,_⟩|⟨k,l,m,Z,e,_,a,i⟩
 .cases e
 .cases e;exact⟨(cn a _).trans (i.1 j x g),Z,a⟩
theorem gF.some {a:Option Addr}(h:gF W f (.slice a n c) d)(g:0<d.length):∃b o,a=some ⟨b,o,none⟩/\n=d.length:=by
 rcases h with⟨_,e⟩|⟨i,j,k,Z,e,_⟩
 .rw[e]at g;simp at g
 .cases e;exact⟨i,j,rfl,rfl⟩
theorem LU:∃i,prog.info? 249=some i/\i.zero=some (.pointer none)/\i.size=1/\i.bytes=8:=by
 have h:(prog.info? 249).map (fun i=>(i.zero,i.size,i.bytes))=some (some (.pointer none),1,8):=by kernel_rfl
 obtain⟨i,b,a⟩:=dX.1 h;simp only[gi]at a;exact⟨i,b,a.1,a.2.1,a.2.2⟩
theorem LV:∃i,prog.info? 263=some i/\i.zero=some (.pointer none)/\i.size=1/\i.bytes=8:=by
 have h:(prog.info? 263).map (fun i=>(i.zero,i.size,i.bytes))=some (some (.pointer none),1,8):=by kernel_rfl
 obtain⟨i,b,a⟩:=dX.1 h;simp only[gi]at a;exact⟨i,b,a.1,a.2.1,a.2.2⟩
end Go.Proofs.YtlonjggfnleolaaGreatDoor
