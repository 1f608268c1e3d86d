import Derived.Test.YtlonjggfnleolaaGreatDoorAsks
namespace Go.Proofs.YtlonjggfnleolaaGreatDoor
open Go.RowKit
set_option linter.unusedVariables false
def saidV (ok:Bool)(s:ByteArray):Value:=bif ok then .tuple #[.string s,.int .i64 0]else .tuple #[.string ⟨#[]⟩,.int .i64 1]
theorem ask_any (d k:Int)(a:Option Addr)(n c:Nat)(ss:List ByteArray)(val wd:ByteArray)(ft:Bool)(cid id:Int)(w:World)(hs:StrsIn w a n c ss)(hv:val.size≤maxLen):Calls Tryz.prog 21 #[.int .i64 d,cmdV6 k (.slice a n c) val wd ft cid,.int .i64 id] w fun e w'=>e= .returned (saidV (cmdB k ss val&&sayB d k n id) (askS d k ss val id))∧Below w.heap.size w w':=by
 by_cases g1:d=1
 ·subst g1;rcases hcb:cmdB k ss val with _|_
  ·exact ask_bad1 k a n c ss val wd ft cid id w hs hv hcb
  ·refine ask_good1 k a n c ss val wd ft cid id w hs hv hcb (linesAskB k ss val) rfl fun W hS=>?_
   have R:=right_of hcb;obtain⟨hl,hc,sm,sz,hf⟩:=hS;rcases hf with⟨b,o,rfl,hb,hcell⟩|⟨rfl,rfl⟩
   ·subst hl;exact liAsk k b o c ss val wd ft cid id W R hb hc hcell
   ·exact absurd R.len1 (by simp)
 by_cases g2:d=2
 ·subst g2;rcases hcb:cmdB k ss val with _|_
  ·exact ask_bad2 k a n c ss val wd ft cid id w hs hv hcb
  ·rcases hcan:frSayB k n id with _|_
   ·have e:(sayB 2 k n id)=false:=by unfold sayB;rw[hcan];rfl
    rw[e];exact ask_nosay2 k a n c ss val wd ft cid id w hs hv hcb hcan
   ·have e:(sayB 2 k n id)=true:=by unfold sayB;rw[hcan];rfl
    rw[e];have R:=right_of hcb;have hn1:ss.length=1:=by
     by_cases hk:k=1
     ·have h2:=hs.len;unfold frSayB at hcan;simp[hk]at hcan;omega
     ·exact R.one hk
    match ss,hn1,R with
    | [key],_,R=>
     refine ask_good2 k a n c [key] val wd ft cid id w hs hv hcb _ hcan fun W hS=>?_
     have hid:0≤id∧id≤65535:=by
      unfold frSayB at hcan;simp at hcan;omega
     obtain⟨hl,hc,sm,sz,hf⟩:=hS;rcases hf with⟨b,o,rfl,hb,hcell⟩|⟨h,rfl⟩
     ·have:n=1:=by simpa using hl.symm
      subst this;exact frAsk k b o c key val wd ft cid id W R.kind hb (hcell 0 key rfl) (R.keys key (by simp)) R.val40 hid.1 hid.2
     ·simp at h
 by_cases g3:d=3
 ·subst g3;rcases hcb:cmdB k ss val with _|_
  ·exact ask_bad3 k a n c ss val wd ft cid id w hs hv hcb
  ·refine ask_good3 k a n c ss val wd ft cid id w hs hv hcb _ rfl fun W hS=>?_
   have R:=right_of hcb;obtain⟨hl,hc,sm,sz,hf⟩:=hS;rcases hf with⟨b,o,rfl,hb,hcell⟩|⟨rfl,rfl⟩
   ·subst hl;exact lsAsk k b o c ss val wd ft cid id W R hb hc hcell
   ·exact absurd R.len1 (by simp)
 have e:sayB d k n id=false:=by unfold sayB dialB;simp[g1,g2,g3]
 rw[e,Bool.and_false];exact ask_nodial d k a n c val wd ft cid id w g1 g2 g3
def textB (s:ByteArray):ByteArray:=⟨#[36]⟩++sizedB s
end Go.Proofs.YtlonjggfnleolaaGreatDoor
