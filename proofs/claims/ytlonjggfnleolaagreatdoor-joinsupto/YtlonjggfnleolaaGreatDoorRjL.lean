import Derived.Test.YtlonjggfnleolaaGreatDoorRjH
namespace Go.Proofs.YtlonjggfnleolaaGreatDoor
open Go.RowKit Go.Shelf
set_option linter.unusedVariables false
theorem OffRow.at_ {w:World}{e:TypeId}{v:Value}{xs:List Value}(h:OffRow w e v xs){i:Nat}{x:Value}(hx:xs[i]?=some x):∃g off c,v= .slice (some ⟨g,off,none⟩) xs.length c∧xs.length≤c∧g<w.heap.size∧w.cell? ⟨g,off+i,none⟩=some x:=by
 rcases h with⟨_,rfl⟩|⟨g,off,cap,cur,rfl,h1,h2,h3,h4⟩
 ·simp at hx
 ·exact⟨g,off,cap,rfl,h2,blkLt h1,(blkCell h1 _).trans (h4 i x hx)⟩
theorem reftell_wrong (d:Int)(hd:d=1∨d=2∨d=3)(c:Cmd)(ka:Option Addr)(kc:Nat)(W:World)(hS:StrsIn W ka 0 kc [])(h4:c.kind=4)(hv:c.val.size≤40)(hw8:c.word.size≤8)(hwd:wordB c.word=true)(i0:0≤c.id)(i1:c.id≤65535):Calls Tryz.prog 104 #[.int .i64 d,cmdV6 c.kind (.slice ka 0 kc) c.val c.word c.fatal c.id,ansV 5 (.slice none 0 0) (.slice none 0 0) c.word,.int .i64 c.id] W fun e w'=>e= .returned (.tuple #[.string (wrongB d c),.int .i64 0])∧Below W.heap.size W w':=by
 have hf:BoolsIn W none 0 0 []:=⟨rfl,Nat.le_refl _,by simp,.inr ⟨rfl,rfl⟩⟩
 have hvs:StrsIn W none 0 0 []:=⟨rfl,Nat.le_refl _,by simp,by simp,.inr ⟨rfl,rfl⟩⟩
 have e2:answerB 4 [] c.val 5 [] [] c.word=true:=by
  unfold answerB;simp[hwd]
 rw[h4];unfold wrongB;rcases hd with rfl|rfl|rfl
 ·rw[if_pos rfl];exact refTell_good1 4 ka 0 kc [] c.val c.word c.fatal c.id 5 none none 0 0 0 0 [] [] c.word c.id W hS (by unfold maxLen;omega) hf hvs (by unfold maxLen;omega) e2 (liTellB 5 c.word) (fun W' _=>refLines_plain 4 _ c.val c.word c.fatal c.id 5 _ _ c.word W' (by omega) (fun _=>hw8))
 ·rw[if_neg (by decide),if_pos rfl];exact refTell_good2w ka 0 kc [] c.val c.word c.fatal c.id 5 none none 0 0 0 0 [] [] c.word c.id W hS (by unfold maxLen;omega) hf hvs (by unfold maxLen;omega) e2 (by unfold sayB dialB frSayB;simp[i0,i1]) (headB 2 2 0 0 0) (fun W' _=>refFrames_plain 5 _ _ c.word 0 W' (by decide) (by decide) (by decide))
 ·rw[if_neg (by decide),if_neg (by decide)];exact refTell_good3 4 ka 0 kc [] c.val c.word c.fatal c.id 5 none none 0 0 0 0 [] [] c.word c.id W hS (by unfold maxLen;omega) hf hvs (by unfold maxLen;omega) e2 (lsTellB 5 c.word) (fun W' _=>refLists_plain 5 _ _ c.word W' (by omega) (fun _=>hw8))
theorem OffRow.tail0 {w:World}{e:TypeId}{x:Value}{a:Addr}{c:Nat}(h:OffRow w e (.slice (some a) 1 c) [x]):OffRow w e (.slice (some a) 0 0) []:=by
 rcases h with⟨h,_⟩|⟨g,off,cap,cur,h,h1,h2,h3,h4⟩
 ·cases h
 ·cases h;exact .inr ⟨g,off,0,cur,rfl,h1,Nat.le_refl _,by omega,fun i y hy=>by simp at hy⟩
theorem askS_sent (k:Int)(key val:ByteArray)(id:Nat):askS 2 k [key] val (id:Int)=sentB k key val id:=by
 unfold askS sentB;rw[if_neg (by decide),if_pos rfl];rfl
def rMeas (w:World)(K Y:Nat):Nat:=2*(match w.cell? ⟨Y,1,none⟩with|some (.string b)=>b.size|_=>0)+(match w.cell? ⟨K,2,none⟩with|some (.slice _ n _)=>n|_=>0)
end Go.Proofs.YtlonjggfnleolaaGreatDoor
