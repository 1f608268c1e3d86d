import Derived.Test.YtlonjggfnleolaaGreatDoorRjL
namespace Go.Proofs.YtlonjggfnleolaaGreatDoor
open Go.RowKit Go.Shelf
set_option linter.unusedVariables false
variable {W:World}{lo n c:Nat}{ss:List ByteArray}
theorem KeysR.cell {b o:Nat}(h:KeysR W lo (.slice (some ⟨b,o,none⟩) n c) ss){j:Nat}{x:ByteArray}(hx:ss[j]?=some x):W.cell? ⟨b,o+j,none⟩=some (.string x)∧∃Z,W.heap[b]?=some (.cells Z 9 (0,0)):=by
 rcases h with⟨e,_⟩|⟨b',o',c',Z,e,_,h3,h4⟩
 ·cases e
 ·cases e;exact⟨(blkCell h3 _).trans (h4.1 j x hx),Z,h3⟩
theorem KeysR.some {a:Option Addr}(h:KeysR W lo (.slice a n c) ss)(hn:0<ss.length):∃b o,a=some ⟨b,o,none⟩∧n=ss.length:=by
 rcases h with⟨_,e⟩|⟨b',o',c',Z,e,_⟩
 ·rw[e]at hn;simp at hn
 ·cases e;exact⟨b',o',rfl,rfl⟩
theorem info249:∃i,Tryz.prog.info? 249=some i∧i.zero=some (.pointer none)∧i.size=1∧i.bytes=8:=by
 have h:(Tryz.prog.info? 249).map (fun i=>(i.zero,i.size,i.bytes))=some (some (.pointer none),1,8):=by kernel_rfl
 obtain⟨i,hi,hz⟩:=Option.map_eq_some_iff.1 h;simp only[Prod.mk.injEq]at hz;exact⟨i,hi,hz.1,hz.2.1,hz.2.2⟩
theorem info263:∃i,Tryz.prog.info? 263=some i∧i.zero=some (.pointer none)∧i.size=1∧i.bytes=8:=by
 have h:(Tryz.prog.info? 263).map (fun i=>(i.zero,i.size,i.bytes))=some (some (.pointer none),1,8):=by kernel_rfl
 obtain⟨i,hi,hz⟩:=Option.map_eq_some_iff.1 h;simp only[Prod.mk.injEq]at hz;exact⟨i,hi,hz.1,hz.2.1,hz.2.2⟩
end Go.Proofs.YtlonjggfnleolaaGreatDoor
