import Derived.Test.YtlonjggfnleolaaGreatDoorFrRead
import Derived.Test.YtlonjggfnleolaaGreatDoorReadNil
import Derived.Lib.Bytealg
namespace Go.Proofs.YtlonjggfnleolaaGreatDoor
open Go.RowKit
set_option linter.unusedVariables false
set_option maxHeartbeats 2000000
set_option maxRecDepth 20000
variable {w W:World}{bs:List UInt8}
def bytesOf (bs:List UInt8)(i k:Nat):ByteArray:=⟨((bs.drop i).take k).toArray⟩
theorem BytesIn.later {w':World}{g o n c:Nat}(h:BytesIn w g o n c bs)(hb:Below w.heap.size w w'):BytesIn w' g o n c bs:=
 ⟨Nat.lt_of_lt_of_le h.lt hb.size,h.len,h.cap,h.small,fun i hi=>(hb.cell (p:=⟨g,o+i,none⟩) h.lt).trans (h.by_ i hi)⟩
theorem conv_by (W:World)(g o n c i k cc:Nat)(bs:List UInt8)(h:BytesIn W g o n c bs)(hk:i+k≤n):(convert 80 9 (.slice (some ⟨g,o+i,none⟩) k cc)).run Tryz.prog W= .ok (.string (bytesOf bs i k)) W:=by
 have hl:((bs.drop i).take k).length=k:=by simp;have:=h.len;omega
 rw[run_convert_bytes_arg (P:=Tryz.prog) W 80 5 Tryz.underlying80 Tryz.underlying5 g (o+i) k _ (((bs.drop i).take k).map fun b=>(b.toNat:Int)) (by simpa using hl) (fun j hj=>?_) 9 Tryz.underlying9,strOfNums_bytes]
 ·rfl
 have hj2:i+j<bs.length:=by have:=h.len;omega
 have e2:((bs.drop i).take k)[j]?=some bs[i+j]:=by
  rw[List.getElem?_take_of_lt hj,List.getElem?_drop,List.getElem?_eq_getElem hj2]
 rw[Nat.add_assoc,h.by_ (i+j) (by omega)];rw[List.getD,List.getElem?_map,e2];simp[byAt,List.getD,List.getElem?_eq_getElem hj2]
theorem frRead_short (g o n c:Nat)(a:Option Addr)(w:World)(h7:n<7):Calls Tryz.prog 244 #[.agg #[],.slice a n c] w fun e w'=>e= .returned zStepV∧Below w.heap.size w w':=by
 have h7':(n:Int)<7:=by omega
 go_enter Tryz.func244,Tryz.ntmps244;go_wp2;refine bodyPost_ret (v:=zStepV) (by simp[results,Tryz.results244,go_sem,zStepV]) rfl ⟨rfl,((Below.refl _ _).alloc (Nat.le_refl _) _).alloc (by simp) _⟩
structure ZCells (W:World)(R:Nat):Prop where
 all:W.cell? ⟨R,0,none⟩=some (.int .i64 0)∧W.cell? ⟨R,1,none⟩=some (.slice none 0 0)∧W.cell? ⟨R,2,none⟩=some (.string ⟨#[]⟩)∧W.cell? ⟨R,3,none⟩=some (.string ⟨#[]⟩)∧W.cell? ⟨R,4,none⟩=some (.bool false)∧W.cell? ⟨R,5,none⟩=some (.int .i64 0)∧W.cell? ⟨R,6,none⟩=some (.int .i64 0)∧W.cell? ⟨R,7,none⟩=some (.bool false)
 free:∀i,W.frozen? ⟨R,i,none⟩=false
theorem zstep_kept {x:Obj}(h:Below ((w.alloc x).alloc (.cells #[.int .i64 0,.slice none 0 0,.string ⟨#[]⟩,.string ⟨#[]⟩,.bool false,.int .i64 0,.int .i64 0,.bool false] 255)).heap.size ((w.alloc x).alloc (.cells #[.int .i64 0,.slice none 0 0,.string ⟨#[]⟩,.string ⟨#[]⟩,.bool false,.int .i64 0,.int .i64 0,.bool false] 255)) W):ZCells W (w.heap.size+1):=by
 have h1:=blkNew (w.alloc x) (.cells #[.int .i64 0,.slice none 0 0,.string ⟨#[]⟩,.string ⟨#[]⟩,.bool false,.int .i64 0,.int .i64 0,.bool false] 255);rw[World.size_alloc]at h1;have h2:=(h.block (w.heap.size+1) (by simp)).trans h1;exact⟨⟨blkCell h2 0,blkCell h2 1,blkCell h2 2,blkCell h2 3,blkCell h2 4,blkCell h2 5,blkCell h2 6,blkCell h2 7⟩,blkFree h2⟩
theorem set8 (h:Below w.heap.size w W){R:Nat}(hR:w.heap.size≤R)(a b c d e f g i:Value):Below w.heap.size w ((((((((W.setCell ⟨R,0,none⟩ a).setCell ⟨R,1,none⟩ b).setCell ⟨R,2,none⟩ c).setCell ⟨R,3,none⟩ d).setCell ⟨R,4,none⟩ e).setCell ⟨R,5,none⟩ f).setCell ⟨R,6,none⟩ g).setCell ⟨R,7,none⟩ i):=
 (((((((h.setCell (p:=⟨R,0,none⟩) hR _).setCell (p:=⟨R,1,none⟩) hR _).setCell (p:=⟨R,2,none⟩) hR _).setCell (p:=⟨R,3,none⟩) hR _).setCell (p:=⟨R,4,none⟩) hR _).setCell (p:=⟨R,5,none⟩) hR _).setCell (p:=⟨R,6,none⟩) hR _).setCell (p:=⟨R,7,none⟩) hR _
theorem frRead_bad (g o n c:Nat)(bs:List UInt8)(w:World)(hB:BytesIn w g o n c bs)(h7:7≤n)(hh:frHead bs=false):Calls Tryz.prog 244 #[.agg #[],.slice (some ⟨g,o,none⟩) n c] w fun e w'=>e= .returned (stepV 4 (.slice none 0 0) ⟨#[]⟩ ⟨#[102,111,114,109]⟩ true 0 7 false)∧Below w.heap.size w w':=by
 have h7':¬(n:Int)<7:=by omega
 have HB2:=hide' (show∀x y,Below w.heap.size w ((w.alloc x).alloc y)from fun x y=>((Below.refl _ _).alloc (Nat.le_refl _) _).alloc (by simp) _);have HH:=hide' (fun W (h:Below w.heap.size w W)=>headMayBe_any g o n c bs W (hB.later h) h7);rw[hh]at HH;clear hB hh h7;go_enter Tryz.func244,Tryz.ntmps244;go_wp2_with fail
 go_at_call 246;refine(HH.out _ (HB2.out _ _)).mono ?_;rintro e w1 ⟨rfl,q,rfl⟩;go_wp2_with fail
 go_at_call 218;refine(wrong_any _ _ _).mono ?_;rintro e w2 ⟨rfl,hb2⟩;have hz2:w.heap.size+1<w2.heap.size:=by have:=hb2.size;simp at this;omega
 have H2:=hide' (hb2);have HF:=hide' (fatal_any ⟨#[102,111,114,109]⟩ 7 w2);clear hb2;unfold stepV at*;go_wp2_with fail
 go_at_call 247;refine HF.out.mono ?_;rintro e w3 ⟨rfl,hb3⟩;have H3:Hid (Below w.heap.size w w3):=(HB2.out _ _).trans (((below_drewN (Below.refl _ _) q).trans (H2.out.mono (by simp;omega))).trans (hb3.mono (by omega)));have hR:=zstep_kept (W:=w3) ((((below_drewN (Below.refl _ _) q).trans H2.out)).trans (hb3.mono (by simp;omega)));obtain⟨⟨r0,r1,r2,r3,r4,r5,r6,r7⟩,rf⟩:=hR;clear hb3 HH H2 HF;go_wp2;refine bodyPost_ret (v:=stepV 4 (.slice none 0 0) ⟨#[]⟩ ⟨#[102,111,114,109]⟩ true 0 7 false) (by simp[results,Tryz.results244,go_sem,stepV,r0,r1,r2,r3,r4,r5,r6,r7]) rfl ⟨rfl,?_⟩;exact set8 H3.out (by omega) _ _ _ _ _ _ _ _
theorem frHead_parts (h:frHead bs=true):1≤byAt bs 2∧byAt bs 2≤8∧numAt bs 3≤40:=by
 unfold frHead at h;simp only[Bool.and_eq_true,Bool.or_eq_true,decide_eq_true_eq]at h;omega
theorem frRead_wait (g o n c:Nat)(bs:List UInt8)(w:World)(hB:BytesIn w g o n c bs)(h7:7≤n)(hh:frHead bs=true)(hend:n<7+byAt bs 2+numAt bs 3):Calls Tryz.prog 244 #[.agg #[],.slice (some ⟨g,o,none⟩) n c] w fun e w'=>e= .returned zStepV∧Below w.heap.size w w':=by
 have h7':¬(n:Int)<7:=by omega
 have HB2:=hide' (show∀x y,Below w.heap.size w ((w.alloc x).alloc y)from fun x y=>((Below.refl _ _).alloc (Nat.le_refl _) _).alloc (by simp) _);have HH:=hide' (fun W (h:Below w.heap.size w W)=>headMayBe_any g o n c bs W (hB.later h) h7);rw[hh]at HH;obtain⟨p2a,p2b,pN⟩:=frHead_parts hh;have hlt:=hB.lt;have hlt1:g<w.heap.size+1:=by omega
 have hlt2:g<w.heap.size+1+1:=by omega
 have hcap:=hB.cap;have c2:=hB.by_ 2 (by omega);have hsm:=hB.small;have HN:Hid (∀W:World,Below w.heap.size w W→∀c',2≤c'→Calls Tryz.prog 163 #[.slice (some ⟨g,o+3,none⟩) 2 c'] W fun e w'=>e= .returned (.int .i64 (numAt bs 3))∧∃q,w'=W.drewN q):=fun W hW c' hc'=>
  num2_any g (o+3) c' _ _ W (byAt_lt bs 3) (byAt_lt bs 4) hc' (hB.later hW).lt ((hB.later hW).by_ 3 (by omega)) ((hB.later hW).by_ 4 (by omega))
 clear hB hh;generalize byAt bs 2=x2 at*;generalize numAt bs 3=N at*;have w2:IntKind.i64.wrap (x2:Int)=x2:=wrap_small _ (by omega) (by omega);have n2:2<n:=by omega
 have n5:5≤c:=by omega
 have nc:¬c=3:=by omega
 have he:(n:Int)<7+x2+N:=by omega
 go_enter Tryz.func244,Tryz.ntmps244;go_wp2_with fail
 go_at_call 246;refine(HH.out _ (HB2.out _ _)).mono ?_;rintro e w1 ⟨rfl,q,rfl⟩;go_wp2_with fail
 go_at_call 163;refine(HN.out _ (below_drewN (HB2.out _ _) q) _ (by omega)).mono ?_;rintro e w1 ⟨rfl,q2,rfl⟩;go_wp2;refine bodyPost_ret (v:=zStepV) (by simp[results,Tryz.results244,go_sem,zStepV]) rfl ⟨rfl,?_⟩;exact set8 (below_drewN (HB2.out _ _) _) (by omega) _ _ _ _ _ _ _ _
theorem frRead_badkey (g o n c:Nat)(bs:List UInt8)(w:World)(hB:BytesIn w g o n c bs)(h7:7≤n)(hh:frHead bs=true)(hend:7+byAt bs 2+numAt bs 3≤n)(hkey:keyB (bytesOf bs 7 (byAt bs 2))=false):Calls Tryz.prog 244 #[.agg #[],.slice (some ⟨g,o,none⟩) n c] w fun e w'=>e= .returned (stepV 4 (.slice none 0 0) ⟨#[]⟩ ⟨#[102,111,114,109]⟩ true 0 (7+byAt bs 2+numAt bs 3) false)∧Below w.heap.size w w':=by
 have h7':¬(n:Int)<7:=by omega
 have HB2:=hide' (show∀x y,Below w.heap.size w ((w.alloc x).alloc y)from fun x y=>((Below.refl _ _).alloc (Nat.le_refl _) _).alloc (by simp) _);have HH:=hide' (fun W (h:Below w.heap.size w W)=>headMayBe_any g o n c bs W (hB.later h) h7);rw[hh]at HH;obtain⟨p2a,p2b,pN⟩:=frHead_parts hh;have hlt:=hB.lt;have hlt1:g<w.heap.size+1:=by omega
 have hlt2:g<w.heap.size+1+1:=by omega
 have hcap:=hB.cap;have c2:=hB.by_ 2 (by omega);have hsm:=hB.small;have HN:Hid (∀W:World,Below w.heap.size w W→∀c',2≤c'→Calls Tryz.prog 163 #[.slice (some ⟨g,o+3,none⟩) 2 c'] W fun e w'=>e= .returned (.int .i64 (numAt bs 3))∧∃q,w'=W.drewN q):=fun W hW c' hc'=>
  num2_any g (o+3) c' _ _ W (byAt_lt bs 3) (byAt_lt bs 4) hc' (hB.later hW).lt ((hB.later hW).by_ 3 (by omega)) ((hB.later hW).by_ 4 (by omega))
 have HCV:Hid (∀W,Below w.heap.size w W→∀cc,(convert 80 9 (.slice (some ⟨g,o+7,none⟩) (byAt bs 2) cc)).run Tryz.prog W= .ok (.string (bytesOf bs 7 (byAt bs 2))) W):=fun W hW cc=>conv_by W g o n c 7 (byAt bs 2) cc bs (hB.later hW) (by omega)
 have hks:(bytesOf bs 7 (byAt bs 2)).size≤maxLen:=by
  show((bs.drop 7).take (byAt bs 2)).toArray.size≤maxLen;unfold maxLen;simp;omega
 have HK:=hide' (fun W=>key_any (bytesOf bs 7 (byAt bs 2)) W hks);clear hks;rw[hkey]at HK;clear hB hh hkey;generalize bytesOf bs 7 (byAt bs 2)=key at*;generalize byAt bs 2=x2 at*;generalize numAt bs 3=N at*;have w2:IntKind.i64.wrap (x2:Int)=x2:=wrap_small _ (by omega) (by omega);have n2:2<n:=by omega
 have n5:5≤c:=by omega
 have nc:¬c=3:=by omega
 have nc7:¬c=7:=by omega
 have he:¬(n:Int)<7+x2+N:=by omega
 have hk1:7+x2≤c:=by omega
 go_enter Tryz.func244,Tryz.ntmps244;go_wp2_with fail
 go_at_call 246;refine(HH.out _ (HB2.out _ _)).mono ?_;rintro e w1 ⟨rfl,q,rfl⟩;go_wp2_with fail
 go_at_call 163;refine(HN.out _ (below_drewN (HB2.out _ _) q) _ (by omega)).mono ?_;rintro e w1 ⟨rfl,q2,rfl⟩;have hcv:=HCV.out (((w.alloc (.cells #[] 161)).alloc (.cells #[.int .i64 0,.slice none 0 0,.string ⟨#[]⟩,.string ⟨#[]⟩,.bool false,.int .i64 0,.int .i64 0,.bool false] 255)).drewN (q+q2)) (below_drewN (HB2.out _ _) _) (c-7);go_wp2_with fail
 go_at_call 50;refine(HK.out _).mono ?_;rintro e w1 ⟨rfl,hw1⟩;subst hw1;go_wp2_with fail
 go_at_call 218;refine(wrong_any _ _ _).mono ?_;rintro e w2 ⟨rfl,hb2⟩;have hz2:w.heap.size+1<w2.heap.size:=by have:=hb2.size;simp at this;omega
 have H2:=hide' (hb2);have HF:=hide' (fatal_any ⟨#[102,111,114,109]⟩ (7+x2+N) w2);clear hb2 hcv;unfold stepV at*;go_wp2_with fail
 go_at_call 247;refine HF.out.mono ?_;rintro e w3 ⟨rfl,hb3⟩;have H3:Hid (Below w.heap.size w w3):=(HB2.out _ _).trans (((below_drewN (Below.refl _ _) (q+q2)).trans (H2.out.mono (by simp;omega))).trans (hb3.mono (by omega)));have hR:=zstep_kept (W:=w3) ((((below_drewN (Below.refl _ _) (q+q2)).trans H2.out)).trans (hb3.mono (by simp;omega)));obtain⟨⟨r0,r1,r2,r3,r4,r5,r6,r7⟩,rf⟩:=hR;clear hb3 HH H2 HF;go_wp2;refine bodyPost_ret (v:=stepV 4 (.slice none 0 0) ⟨#[]⟩ ⟨#[102,111,114,109]⟩ true 0 (7+x2+N) false) (by simp[results,Tryz.results244,go_sem,stepV,r0,r1,r2,r3,r4,r5,r6,r7]) rfl ⟨rfl,?_⟩;exact set8 H3.out (by omega) _ _ _ _ _ _ _ _
end Go.Proofs.YtlonjggfnleolaaGreatDoor
namespace Go.Proofs.YtlonjggfnleolaaGreatDoor
set_option linter.unusedVariables false
structure Cmd where
 kind:Int
 keys:List ByteArray
 val:ByteArray
 word:ByteArray
 fatal:Bool
 id:Int
structure StepR where
 c:Cmd
 used:Nat
 skip:Bool
def mkB (l:List UInt8):ByteArray:=⟨l.toArray⟩
def noB:ByteArray:=⟨#[]⟩
def formB:ByteArray:=⟨#[102,111,114,109]⟩
def longB:ByteArray:=⟨#[108,111,110,103]⟩
def bigB:ByteArray:=⟨#[98,105,103]⟩
def dataB:ByteArray:=⟨#[100,97,116,97]⟩
def wrongC (word:ByteArray)(ft:Bool):Cmd:=⟨4,[],noB,word,ft,0⟩
def frR (bs:List UInt8):Option StepR:=
 if bs.length<7 then none
 else if frHead bs=false then some ⟨wrongC formB true,7,false⟩
 else if bs.length<7+byAt bs 2+numAt bs 3 then none
 else if keyB (bytesOf bs 7 (byAt bs 2))=false then some ⟨wrongC formB true,7+byAt bs 2+numAt bs 3,false⟩
 else some ⟨⟨byAt bs 1,[bytesOf bs 7 (byAt bs 2)],bytesOf bs (7+byAt bs 2) (numAt bs 3),noB,false,numAt bs 5⟩,7+byAt bs 2+numAt bs 3,false⟩
def kindB (s:ByteArray):Int:=if s=⟨#[103,101,116]⟩then 1 else if s=⟨#[115,101,116]⟩then 2 else if s=⟨#[100,101,108]⟩then 3 else 0
def splitL:List UInt8→List (List UInt8)
 | []=>[[]]
 |b::l=>if b=32 then []::splitL l else match splitL l with|h::t=>(b::h)::t| []=>[[b]]
def wordsOf (l:List UInt8):List ByteArray:=(splitL l).map mkB
def digsTo (l:List UInt8):Nat:=l.foldl (fun n b=>n*10+(b.toNat-48)) 0
def countS (s:ByteArray):Option Nat:=
 if s.size<1∨3<s.size∨(1<s.size∧s.data.toList.getD 0 0=48)then none
 else if s.data.toList.all digB then some (digsTo s.data.toList)else none
def setSizeR (ws:List ByteArray):Option Nat:=
 if ws.length=3∧kindB (ws.getD 0 noB)=2∧keyB (ws.getD 1 noB)=true then countS (ws.getD 2 noB)else none
def setR (bs:List UInt8)(frm:Nat)(key:ByteArray)(size:Nat):Option StepR:=
 if 40<size then some ⟨wrongC bigB false,frm,false⟩
 else if bs.length≤frm+size then none
 else if bs.getD (frm+size) 0≠10 then some ⟨wrongC dataB false,frm+size,true⟩
 else some ⟨⟨2,[key],bytesOf bs frm size,noB,false,0⟩,frm+size+1,false⟩
def lineR (bs:List UInt8)(e:Nat):Option StepR:=
 match setSizeR (wordsOf (bs.take e))with
 |some size=>setR bs (e+1) ((wordsOf (bs.take e)).getD 1 noB) size
 |none=>
  if kindB ((wordsOf (bs.take e)).getD 0 noB)=2∨cmdB (kindB ((wordsOf (bs.take e)).getD 0 noB)) ((wordsOf (bs.take e)).drop 1) noB=false
  then some ⟨wrongC formB false,e+1,false⟩
  else some ⟨⟨kindB ((wordsOf (bs.take e)).getD 0 noB),(wordsOf (bs.take e)).drop 1,noB,noB,false,0⟩,e+1,false⟩
def lnR (bs:List UInt8):Option StepR:=
 if 0≤Go.Lib.indexByte (bs.take 61) 10 then lineR bs (Go.Lib.indexByte (bs.take 61) 10).toNat
 else if 60<bs.length then some ⟨wrongC longB false,61,true⟩
 else none
structure WS where
 pos:Nat
 wrong:Bool
 short:Bool
def WS.look (n:Nat)(s:WS):WS:=⟨s.pos,s.wrong,s.short || decide (s.pos=n)⟩
def expectW (bs:List UInt8)(c:UInt8)(s:WS):WS:=
 if(s.look bs.length).short || s.wrong then s.look bs.length
 else if bs.getD s.pos 0=c then⟨s.pos+1,false,false⟩else⟨s.pos,true,false⟩
def countF (bs:List UInt8)(least most:Nat):Nat→Nat→Nat→Bool→Nat×WS
 |0,p,n,first=>(0,⟨p,false,true⟩)
 |f+1,p,n,first=>
  if first=false∧bs.getD p 0=10 then(n,⟨p+1,false,false⟩)
  else if digB (bs.getD p 0)=false∨most<n*10+(byAt bs p-48)∨(first=true∧byAt bs p-48<least)∨(first=false∧n=0)then(0,⟨p,true,false⟩)
  else countF bs least most f (p+1) (n*10+(byAt bs p-48)) false
def countW (bs:List UInt8)(least most:Nat)(s:WS):Nat×WS:=
 if(s.look bs.length).short || s.wrong then(0,s.look bs.length)else countF bs least most (bs.length-s.pos) s.pos 0 true
def textW (bs:List UInt8)(n:Nat)(s:WS):ByteArray×WS:=
 if s.wrong || s.short then(noB,s)
 else if bs.length<s.pos+n then(noB,⟨s.pos,s.wrong,true⟩)
 else(bytesOf bs s.pos n,⟨s.pos+n,s.wrong,s.short⟩)
def oneW (bs:List UInt8)(s:WS):ByteArray×WS:=
 let c:=countW bs 0 40 (expectW bs 36 s)
 let t:=textW bs c.1 c.2
 (t.1,expectW bs 10 t.2)
def textsW (bs:List UInt8):Nat→WS→List ByteArray→List ByteArray×WS
 |0,s,acc=>(acc,s)
 |k+1,s,acc=>textsW bs k (oneW bs s).2 (acc++[(oneW bs s).1])
def textsR (ts:List ByteArray)(used:Nat):StepR:=
 let k:=kindB (ts.getD 0 noB)
 let ks:=ts.drop 1
 let keys:=if k=2 then(if ks.length=2 then ks.take 1 else [])else ks
 let val:=if k=2∧ks.length=2 then ks.getD 1 noB else noB
 if cmdB k keys val then⟨⟨k,keys,val,noB,false,0⟩,used,false⟩else⟨wrongC dataB false,used,false⟩
def lsR (bs:List UInt8):Option StepR:=
 let c:=countW bs 1 5 (expectW bs 42 ⟨0,false,false⟩)
 let t:=textsW bs c.1 c.2 []
 if t.2.wrong then some ⟨wrongC formB true,t.2.pos+1,false⟩
 else if t.2.short then none
 else some (textsR t.1 t.2.pos)
def readR (d:Int)(bs:List UInt8):Option StepR:=if d=1 then lnR bs else if d=2 then frR bs else lsR bs
end Go.Proofs.YtlonjggfnleolaaGreatDoor
