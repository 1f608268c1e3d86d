import Derived.Test.YtlonjggfnleolaaGreatDoorSayA
set_option linter.unusedVariables false
namespace Go.Proofs.YtlonjggfnleolaaGreatDoor
open Go.RowKit Go.Shelf Go.Proofs.Tryz
theorem gW.at_ {w:World}{e:TypeId}{v:Value}{b:List Value}(h:gW w e v b){i:Nat}{x:Value}(f:b[i]?=some x):∃g a c,v= .slice (some ⟨g,a,none⟩) b.length c/\b.length<=c/\g<w.heap.size/\w.cell? ⟨g,a+i,none⟩=some x:=by
 rcases h with⟨_,rfl⟩|⟨g,a,d,k,rfl,j,l,n,m⟩
 .simp at f
 .exact⟨g,a,d,rfl,l,cA j,(cn j _).trans (m i x f)⟩
theorem zQ (d:Int)(m:d=1\/d=2\/d=3)(c:iO)(b:Option Addr)(f:Nat)(W:World)(i:dH W b 0 f [])(n:c.kind=4)(q:c.val.size<=40)(g:c.word.size<=8)(j:lv c.word=true)(o:0<=c.id)(p:c.id<=65535):Calls prog 104 #[.int .i64 d,db c.kind (.slice b 0 f) c.val c.word c.fatal c.id,eW 5 (.slice none 0 0) (.slice none 0 0) c.word,.int .i64 c.id] W fun e w'=>e= .returned (.tuple #[.string (qW d c),.int .i64 0])/\Below W.heap.size W w':=by
 have k:eZ W none 0 0 []:=⟨rfl,PC _,by simp,.inr ⟨rfl,rfl⟩⟩
 have a:dH W none 0 0 []:=⟨rfl,PC _,by simp,by simp,.inr ⟨rfl,rfl⟩⟩
 have l:eI 4 [] c.val 5 [] [] c.word=true:=by
  unfold eI;simp[j]
 rw[n];unfold qW;rcases m with rfl|rfl|rfl
 .exact ui 4 b 0 f [] c.val c.word c.fatal c.id 5 none none 0 0 0 0 [] [] c.word c.id W i (by unfold maxLen;omega) k a (by unfold maxLen;omega) l (oV 5 c.word) (fun h _=>ti 4 _ c.val c.word c.fatal c.id 5 _ _ c.word h (by omega) (fun _=>g))
 .exact tl b 0 f [] c.val c.word c.fatal c.id 5 none none 0 0 0 0 [] [] c.word c.id W i (by unfold maxLen;omega) k a (by unfold maxLen;omega) l (by unfold jY uf gI;simp[o,p]) (gO 2 2 0 0 0) (fun h _=>pD 5 _ _ c.word 0 h (by decide) (by decide) (by decide))
 .exact uj 4 b 0 f [] c.val c.word c.fatal c.id 5 none none 0 0 0 0 [] [] c.word c.id W i (by unfold maxLen;omega) k a (by unfold maxLen;omega) l (oW 5 c.word) (fun h _=>tj 5 _ _ c.word h (by omega) (fun _=>g))
theorem gW.OC {w:World}{e:TypeId}{x:Value}{a:Addr}{c:Nat}(h:gW w e (.slice (some a) 1 c) [x]):gW w e (.slice (some a) 0 0) []:=by
 rcases h with⟨h,_⟩|⟨g,b,f,d,h,j,l,m,n⟩
 .cases h
 .cases h;exact .inr ⟨g,b,0,d,rfl,j,PC _,by omega,fun i y k=>by simp at k⟩
theorem Gm (k:Int)(a b:ByteArray)(id:Nat):uy 2 k [a] b (id:Int)=Py k a b id:=by
 unfold uy Py;rfl
def xb (w:World)(K Y:Nat):Nat:=2*(match w.cell? ⟨Y,1,none⟩with|some (.string b)=>b.size|_=>0)+(match w.cell? ⟨K,2,none⟩with|some (.slice _ n _)=>n|_=>0)
end Go.Proofs.YtlonjggfnleolaaGreatDoor
