import Derived.Test.YtlonjggfnleolaaGreatDoorJuQa
namespace Go.Proofs.YtlonjggfnleolaaGreatDoor
open Go.RowKit
set_option linter.unusedVariables false
variable {p:Bool×ByteArray×ByteArray}
def valB (p:Bool×ByteArray×ByteArray):ByteArray:=bif p.1 then⟨#[118,97,108,117,101,32]⟩++p.2.1++⟨#[32]⟩++sizedB p.2.2 else⟨#[]⟩
def liFold (ts:List (Bool×ByteArray×ByteArray)):ByteArray:=ts.foldl (fun s p=>s++valB p) ⟨#[]⟩
theorem valB_size (hk:p.2.1.size≤8)(hv:p.2.2.size≤40):(valB p).size≤59:=by
 have:=sizedB_size hv;have e1:(ByteArray.mk #[118,97,108,117,101,32]).size=6:=rfl;have e2:(ByteArray.mk #[32]).size=1:=rfl;unfold valB;cases p.1
 ·exact Nat.zero_le _
 ·show(_++_++_++_:ByteArray).size≤_;rw[ByteArray.size_append,ByteArray.size_append,ByteArray.size_append];omega
theorem liFoldA_size (a:ByteArray)(ts:List (Bool×ByteArray×ByteArray))(h:∀p∈ts,p.2.1.size≤8∧p.2.2.size≤40):(ts.foldl (fun s p=>s++valB p) a).size≤a.size+59*ts.length:=by
 induction ts generalizing a with
 |nil=>simp
 |cons x t ih=>
  have h1:=ih (a++valB x) (fun s hs=>h s (List.mem_cons_of_mem _ hs));have h2:=h x (List.mem_cons_self ..);have h3:=valB_size h2.1 h2.2;rw[ByteArray.size_append]at h1;rw[List.foldl_cons,List.length_cons];omega
theorem liFold_step {ts:List (Bool×ByteArray×ByteArray)}{j:Nat}(h:ts[j]?=some p):liFold (ts.take (j+1))=liFold (ts.take j)++valB p:=by
 rw[List.take_add_one,h];simp[liFold,List.foldl_append]
variable {p:Bool×ByteArray}
def tvB (p:Bool×ByteArray):ByteArray:=bif p.1 then textB p.2 else⟨#[36,45,49,10]⟩
def lsFold (ts:List (Bool×ByteArray)):ByteArray:=ts.foldl (fun s p=>s++tvB p) ⟨#[]⟩
def lsVals (n:Nat)(ts:List (Bool×ByteArray)):ByteArray:=if n=1 then lsFold ts else⟨#[42]⟩++dec100 n++⟨#[10]⟩++lsFold ts
theorem tvB_size (hv:p.2.size≤40):(tvB p).size≤45:=by
 have:=textB_size hv;unfold tvB;cases p.1
 ·show(ByteArray.mk #[36,45,49,10]).size≤45;decide
 ·exact this
theorem lsFoldA_size (a:ByteArray)(ts:List (Bool×ByteArray))(h:∀p∈ts,p.2.size≤40):(ts.foldl (fun s p=>s++tvB p) a).size≤a.size+45*ts.length:=by
 induction ts generalizing a with
 |nil=>simp
 |cons x t ih=>
  have h1:=ih (a++tvB x) (fun s hs=>h s (List.mem_cons_of_mem _ hs));have h3:=tvB_size (h x (List.mem_cons_self ..));rw[ByteArray.size_append]at h1;rw[List.foldl_cons,List.length_cons];omega
theorem lsFold_step {ts:List (Bool×ByteArray)}{j:Nat}(h:ts[j]?=some p):lsFold (ts.take (j+1))=lsFold (ts.take j)++tvB p:=by
 rw[List.take_add_one,h];simp[lsFold,List.foldl_append]
end Go.Proofs.YtlonjggfnleolaaGreatDoor
