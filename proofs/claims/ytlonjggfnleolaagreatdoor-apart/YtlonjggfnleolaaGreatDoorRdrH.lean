import Derived.Test.YtlonjggfnleolaaGreatDoorRdrF
namespace Go.Proofs.YtlonjggfnleolaaGreatDoor
open Go.RowKit Go.Shelf
set_option linter.unusedVariables false
set_option maxHeartbeats 1000000
def dT (d:Int)(t:Nat):Prop:=(d=1∧t=160)∨(d=2∧t=161)∨(d=3∧t=162)
theorem readRd_any (D t:Nat)(d:Int)(hd:dT d t):∀W hb s,RdrAt W D hb t s→s.held.length≤140737488355328→Calls Tryz.prog 121 #[.pointer (some ⟨D,0,none⟩)] W fun e w'=>ReadOut W w' D hb t s (readR d s.held) e:=by
 intro W hb s R hs;rcases hd with⟨rfl,rfl⟩|⟨rfl,rfl⟩|⟨rfl,rfl⟩
 ·exact readRd1 D hb s W R hs
 ·exact readRd2 D hb s W R hs
 ·exact readRd3 D hb s W R hs
theorem takeS_len (s:St)(p:List UInt8):(takeS s p).held.length≤s.held.length+p.length:=by
 unfold takeS;split
 ·omega
 ·split
  ·have:=passL_len (s.held++p);show(passL (s.held++p)).1.length≤_;simp at this;omega
  ·simp
def tyOf (d:Int):Nat:=if d=1 then 160 else if d=2 then 161 else 162
theorem dT_ty {d:Int}(h:d=1∨d=2∨d=3):dT d (tyOf d):=by
 rcases h with rfl|rfl|rfl
 ·exact .inl ⟨rfl,rfl⟩
 ·exact .inr (.inl ⟨rfl,rfl⟩)
 ·exact .inr (.inr ⟨rfl,rfl⟩)
theorem decoder_any (d:Int)(w:World)(hd:d=1∨d=2∨d=3):Calls Tryz.prog 43 #[.int .i64 d] w fun e w'=>e= .returned (.tuple #[.pointer (some ⟨w.heap.size,0,none⟩),.int .i64 0])∧w'=w.alloc (rdO (tyOf d) (.slice none 0 0) 0 false false):=by
 rcases hd with rfl|rfl|rfl;all_goals
  go_enter Tryz.func43,Tryz.ntmps43
  go_wp2
  go_ret2
  exact⟨rfl,rfl⟩
end Go.Proofs.YtlonjggfnleolaaGreatDoor
