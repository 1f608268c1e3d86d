import Derived.Test.YtlonjggfnleolaaGreatDoorSayA
namespace Go.Proofs.YtlonjggfnleolaaGreatDoor
open Go.RowKit Go.Shelf
set_option linter.unusedVariables false
set_option maxHeartbeats 2000000
set_option maxRecDepth 20000
theorem joined_open (D X Xr:Nat)(at' ck:Int)(kv:Value)(val cw:ByteArray)(ft:Bool)(cid ak:Int)(fv vv:Value)(wd:ByteArray)(g0 g1 g2:Int)(s:ByteArray)(x y:Int)(w:World)(a b:Int)(OB:Obj)(P1 P2:World→Prop)(hOB:OB= .cells #[.int .i64 9,.int .i64 at',.int .i64 ck,kv,.string val,.string cw,.bool ft,.int .i64 cid,.int .i64 ak,fv,vv,.string wd,.int .i64 g0,.int .i64 g1,.int .i64 g2,.string s,.int .i64 x,.int .i64 y] 95)(hD:w.heap[D]?=some (.cells #[ptrV X,ptrV Xr] 201 (0,0)))(h1:Calls Tryz.prog 54 #[ptrV X,.int .i64 x] (w.alloc OB).drew fun e w1=>e= .returned (.tuple #[.int .i64 a,.int .i64 b])∧P1 w1)(h2:∀w1,P1 w1→Calls Tryz.prog 112 #[ptrV Xr,.int .i64 x] w1.drew fun e w2=>e= .returned (.tuple #[.int .i64 a,.int .i64 b])∧P2 w2)(k1:∀w1,P1 w1→w1.heap[D]?=some (.cells #[ptrV X,ptrV Xr] 201 (0,0))∧w1.heap[w.heap.size]?=some OB)(k2:∀w2,P2 w2→w2.heap[D]?=some (.cells #[ptrV X,ptrV Xr] 201 (0,0))∧w2.heap[w.heap.size]?=some OB):Calls Tryz.prog 71 #[ptrV D,Value.agg #[.int .i64 9,.int .i64 at',.int .i64 ck,kv,.string val,.string cw,.bool ft,.int .i64 cid,.int .i64 ak,fv,vv,.string wd,.int .i64 g0,.int .i64 g1,.int .i64 g2,.string s,.int .i64 x,.int .i64 y]] w fun e w'=>e= .returned (.bool true)∧P2 w':=by
 have hDl:=blkLt hD;have HC:Hid (∀W:World,W.heap[D]?=some (.cells #[ptrV X,ptrV Xr] 201 (0,0))∧W.heap[w.heap.size]?=some OB→W.cell? ⟨D,0,none⟩=some (.pointer (some ⟨X,0,none⟩))∧W.cell? ⟨D,1,none⟩=some (.pointer (some ⟨Xr,0,none⟩))∧W.cell? ⟨w.heap.size,0,none⟩=some (.int .i64 9)∧W.cell? ⟨w.heap.size,16,none⟩=some (.int .i64 x)∧D<W.heap.size∧w.heap.size<W.heap.size):=fun W hW=>by
  have hW2:=hW.2;rw[hOB]at hW2;exact⟨blkCell hW.1 0,blkCell hW.1 1,blkCell hW2 0,blkCell hW2 16,blkLt hW.1,blkLt hW2⟩
 have hw0:(w.alloc OB).heap[D]?=some (.cells #[ptrV X,ptrV Xr] 201 (0,0))∧(w.alloc OB).heap[w.heap.size]?=some OB:=⟨(Below.heap_alloc _ _ _ hDl).trans hD,blkNew w OB⟩
 obtain⟨d0,d1,o0,o16,l1,l2⟩:=HC.out _ hw0;have H1:=hide' h1;have H2:=hide' h2;have K1:=hide' k1;have K2:=hide' k2;clear h1 h2 k1 k2 hD hw0;unfold ptrV at*;go_enter Tryz.func71,Tryz.ntmps71;go_wp2_with fail
 rw[←hOB];clear hOB;generalize w.alloc OB=w0 at*;go_region_held3 (fun W'=>W'.cell? ⟨D,0,none⟩=some (.pointer (some ⟨X,0,none⟩))∧W'.cell? ⟨w.heap.size,16,none⟩=some (.int .i64 x)) (go_keep) (first
  |(go_at_call 54;refine H1.out.mono ?_;rintro e w1 ⟨rfl,hp1⟩;obtain⟨d10,d11,o10,o116,l11,l12⟩:=HC.out _ (K1.out _ hp1);have HP1:=hide' hp1;clear hp1 d0 d1 o0 o16 l1 l2)
  |fail)
 have HQ:=hide' (H2.out w1 HP1.out);go_wp2_with fail
 go_region_held3 (fun W'=>W'.cell? ⟨D,1,none⟩=some (.pointer (some ⟨Xr,0,none⟩))∧W'.cell? ⟨w.heap.size,16,none⟩=some (.int .i64 x)) (go_keep) (first
  |(go_at_call 112;refine HQ.out.mono ?_;rintro e w2 ⟨rfl,hp2⟩;obtain⟨d20,d21,o20,o216,l21,l22⟩:=HC.out _ (K2.out _ hp2);have HP2:=hide' hp2;clear hp2 d10 d11 o10 o116 l11 l12)
  |fail)
 go_wp2_with (first|(go_at_call 99;refine(lawnum _ _).mono ?_;rintro e w3 ⟨rfl,hw3⟩;subst hw3)|fail)
 go_ret;exact⟨rfl,HP2.out⟩
theorem joined_told (D X Xr:Nat)(at' ck:Int)(kv:Value)(val cw:ByteArray)(ft:Bool)(cid ak:Int)(fv vv:Value)(wd:ByteArray)(g0 g1 g2:Int)(s:ByteArray)(x y:Int)(w:World)(a:ByteArray)(b:Int)(OB:Obj)(P1 P2:World→Prop)(hOB:OB= .cells #[.int .i64 11,.int .i64 at',.int .i64 ck,kv,.string val,.string cw,.bool ft,.int .i64 cid,.int .i64 ak,fv,vv,.string wd,.int .i64 g0,.int .i64 g1,.int .i64 g2,.string s,.int .i64 x,.int .i64 y] 95)(hD:w.heap[D]?=some (.cells #[ptrV X,ptrV Xr] 201 (0,0)))(h1:Calls Tryz.prog 26 #[ptrV X,.int .i64 x] (w.alloc OB).drew fun e w1=>e= .returned (.tuple #[.string a,.int .i64 b])∧P1 w1)(h2:∀w1,P1 w1→Calls Tryz.prog 113 #[ptrV Xr,.int .i64 x] w1.drew fun e w2=>e= .returned (.tuple #[.string a,.int .i64 b])∧P2 w2)(k1:∀w1,P1 w1→w1.heap[D]?=some (.cells #[ptrV X,ptrV Xr] 201 (0,0))∧w1.heap[w.heap.size]?=some OB)(k2:∀w2,P2 w2→w2.heap[D]?=some (.cells #[ptrV X,ptrV Xr] 201 (0,0))∧w2.heap[w.heap.size]?=some OB):Calls Tryz.prog 71 #[ptrV D,Value.agg #[.int .i64 11,.int .i64 at',.int .i64 ck,kv,.string val,.string cw,.bool ft,.int .i64 cid,.int .i64 ak,fv,vv,.string wd,.int .i64 g0,.int .i64 g1,.int .i64 g2,.string s,.int .i64 x,.int .i64 y]] w fun e w'=>e= .returned (.bool true)∧P2 w':=by
 have hDl:=blkLt hD;have HC:Hid (∀W:World,W.heap[D]?=some (.cells #[ptrV X,ptrV Xr] 201 (0,0))∧W.heap[w.heap.size]?=some OB→W.cell? ⟨D,0,none⟩=some (.pointer (some ⟨X,0,none⟩))∧W.cell? ⟨D,1,none⟩=some (.pointer (some ⟨Xr,0,none⟩))∧W.cell? ⟨w.heap.size,0,none⟩=some (.int .i64 11)∧W.cell? ⟨w.heap.size,16,none⟩=some (.int .i64 x)∧D<W.heap.size∧w.heap.size<W.heap.size):=fun W hW=>by
  have hW2:=hW.2;rw[hOB]at hW2;exact⟨blkCell hW.1 0,blkCell hW.1 1,blkCell hW2 0,blkCell hW2 16,blkLt hW.1,blkLt hW2⟩
 have hw0:(w.alloc OB).heap[D]?=some (.cells #[ptrV X,ptrV Xr] 201 (0,0))∧(w.alloc OB).heap[w.heap.size]?=some OB:=⟨(Below.heap_alloc _ _ _ hDl).trans hD,blkNew w OB⟩
 obtain⟨d0,d1,o0,o16,l1,l2⟩:=HC.out _ hw0;have H1:=hide' h1;have H2:=hide' h2;have K1:=hide' k1;have K2:=hide' k2;clear h1 h2 k1 k2 hD hw0;unfold ptrV at*;go_enter Tryz.func71,Tryz.ntmps71;go_wp2_with fail
 rw[←hOB];clear hOB;generalize w.alloc OB=w0 at*;go_region_held3 (fun W'=>W'.cell? ⟨D,0,none⟩=some (.pointer (some ⟨X,0,none⟩))∧W'.cell? ⟨w.heap.size,16,none⟩=some (.int .i64 x)) (go_keep) (first
  |(go_at_call 26;refine H1.out.mono ?_;rintro e w1 ⟨rfl,hp1⟩;obtain⟨d10,d11,o10,o116,l11,l12⟩:=HC.out _ (K1.out _ hp1);have HP1:=hide' hp1;clear hp1 d0 d1 o0 o16 l1 l2)
  |fail)
 have HQ:=hide' (H2.out w1 HP1.out);go_wp2_with fail
 go_region_held3 (fun W'=>W'.cell? ⟨D,1,none⟩=some (.pointer (some ⟨Xr,0,none⟩))∧W'.cell? ⟨w.heap.size,16,none⟩=some (.int .i64 x)) (go_keep) (first
  |(go_at_call 113;refine HQ.out.mono ?_;rintro e w2 ⟨rfl,hp2⟩;obtain⟨d20,d21,o20,o216,l21,l22⟩:=HC.out _ (K2.out _ hp2);have HP2:=hide' hp2;clear hp2 d10 d11 o10 o116 l11 l12)
  |fail)
 go_wp2_with (first|(go_at_call 99;refine(lawnum _ _).mono ?_;rintro e w3 ⟨rfl,hw3⟩;subst hw3)|fail)
 go_ret;exact⟨rfl,HP2.out⟩
theorem joined_sent (D X Xr:Nat)(at' ck:Int)(kv:Value)(val cw:ByteArray)(ft:Bool)(cid ak:Int)(fv vv:Value)(wd:ByteArray)(g0 g1 g2:Int)(s:ByteArray)(x y:Int)(w:World)(a:ByteArray)(b:Int)(OB:Obj)(P1 P2:World→Prop)(hOB:OB= .cells #[.int .i64 12,.int .i64 at',.int .i64 ck,kv,.string val,.string cw,.bool ft,.int .i64 cid,.int .i64 ak,fv,vv,.string wd,.int .i64 g0,.int .i64 g1,.int .i64 g2,.string s,.int .i64 x,.int .i64 y] 95)(hD:w.heap[D]?=some (.cells #[ptrV X,ptrV Xr] 201 (0,0)))(h1:Calls Tryz.prog 30 #[ptrV X,.int .i64 x] (w.alloc OB).drew fun e w1=>e= .returned (.tuple #[.string a,.int .i64 b])∧P1 w1)(h2:∀w1,P1 w1→Calls Tryz.prog 114 #[ptrV Xr,.int .i64 x] w1.drew fun e w2=>e= .returned (.tuple #[.string a,.int .i64 b])∧P2 w2)(k1:∀w1,P1 w1→w1.heap[D]?=some (.cells #[ptrV X,ptrV Xr] 201 (0,0))∧w1.heap[w.heap.size]?=some OB)(k2:∀w2,P2 w2→w2.heap[D]?=some (.cells #[ptrV X,ptrV Xr] 201 (0,0))∧w2.heap[w.heap.size]?=some OB):Calls Tryz.prog 71 #[ptrV D,Value.agg #[.int .i64 12,.int .i64 at',.int .i64 ck,kv,.string val,.string cw,.bool ft,.int .i64 cid,.int .i64 ak,fv,vv,.string wd,.int .i64 g0,.int .i64 g1,.int .i64 g2,.string s,.int .i64 x,.int .i64 y]] w fun e w'=>e= .returned (.bool true)∧P2 w':=by
 have hDl:=blkLt hD;have HC:Hid (∀W:World,W.heap[D]?=some (.cells #[ptrV X,ptrV Xr] 201 (0,0))∧W.heap[w.heap.size]?=some OB→W.cell? ⟨D,0,none⟩=some (.pointer (some ⟨X,0,none⟩))∧W.cell? ⟨D,1,none⟩=some (.pointer (some ⟨Xr,0,none⟩))∧W.cell? ⟨w.heap.size,0,none⟩=some (.int .i64 12)∧W.cell? ⟨w.heap.size,16,none⟩=some (.int .i64 x)∧D<W.heap.size∧w.heap.size<W.heap.size):=fun W hW=>by
  have hW2:=hW.2;rw[hOB]at hW2;exact⟨blkCell hW.1 0,blkCell hW.1 1,blkCell hW2 0,blkCell hW2 16,blkLt hW.1,blkLt hW2⟩
 have hw0:(w.alloc OB).heap[D]?=some (.cells #[ptrV X,ptrV Xr] 201 (0,0))∧(w.alloc OB).heap[w.heap.size]?=some OB:=⟨(Below.heap_alloc _ _ _ hDl).trans hD,blkNew w OB⟩
 obtain⟨d0,d1,o0,o16,l1,l2⟩:=HC.out _ hw0;have H1:=hide' h1;have H2:=hide' h2;have K1:=hide' k1;have K2:=hide' k2;clear h1 h2 k1 k2 hD hw0;unfold ptrV at*;go_enter Tryz.func71,Tryz.ntmps71;go_wp2_with fail
 rw[←hOB];clear hOB;generalize w.alloc OB=w0 at*;go_region_held3 (fun W'=>W'.cell? ⟨D,0,none⟩=some (.pointer (some ⟨X,0,none⟩))∧W'.cell? ⟨w.heap.size,16,none⟩=some (.int .i64 x)) (go_keep) (first
  |(go_at_call 30;refine H1.out.mono ?_;rintro e w1 ⟨rfl,hp1⟩;obtain⟨d10,d11,o10,o116,l11,l12⟩:=HC.out _ (K1.out _ hp1);have HP1:=hide' hp1;clear hp1 d0 d1 o0 o16 l1 l2)
  |fail)
 have HQ:=hide' (H2.out w1 HP1.out);go_wp2_with fail
 go_region_held3 (fun W'=>W'.cell? ⟨D,1,none⟩=some (.pointer (some ⟨Xr,0,none⟩))∧W'.cell? ⟨w.heap.size,16,none⟩=some (.int .i64 x)) (go_keep) (first
  |(go_at_call 114;refine HQ.out.mono ?_;rintro e w2 ⟨rfl,hp2⟩;obtain⟨d20,d21,o20,o216,l21,l22⟩:=HC.out _ (K2.out _ hp2);have HP2:=hide' hp2;clear hp2 d10 d11 o10 o116 l11 l12)
  |fail)
 go_wp2_with (first|(go_at_call 99;refine(lawnum _ _).mono ?_;rintro e w3 ⟨rfl,hw3⟩;subst hw3)|fail)
 go_ret;exact⟨rfl,HP2.out⟩
theorem joined_say (D X Xr:Nat)(at' ck:Int)(kv:Value)(val cw:ByteArray)(ft:Bool)(cid ak:Int)(fv vv:Value)(wd:ByteArray)(g0 g1 g2:Int)(s:ByteArray)(x y:Int)(w:World)(a:Int)(OB:Obj)(P1 P2:World→Prop)(hOB:OB= .cells #[.int .i64 10,.int .i64 at',.int .i64 ck,kv,.string val,.string cw,.bool ft,.int .i64 cid,.int .i64 ak,fv,vv,.string wd,.int .i64 g0,.int .i64 g1,.int .i64 g2,.string s,.int .i64 x,.int .i64 y] 95)(hD:w.heap[D]?=some (.cells #[ptrV X,ptrV Xr] 201 (0,0)))(h1:Calls Tryz.prog 28 #[ptrV X,.int .i64 x,.string s] (w.alloc OB).drew fun e w1=>e= .returned (.int .i64 a)∧P1 w1)(h2:∀w1,P1 w1→Calls Tryz.prog 115 #[ptrV Xr,.int .i64 x,.string s] w1.drew fun e w2=>e= .returned (.int .i64 a)∧P2 w2)(k1:∀w1,P1 w1→w1.heap[D]?=some (.cells #[ptrV X,ptrV Xr] 201 (0,0))∧w1.heap[w.heap.size]?=some OB)(k2:∀w2,P2 w2→w2.heap[D]?=some (.cells #[ptrV X,ptrV Xr] 201 (0,0))∧w2.heap[w.heap.size]?=some OB):Calls Tryz.prog 71 #[ptrV D,Value.agg #[.int .i64 10,.int .i64 at',.int .i64 ck,kv,.string val,.string cw,.bool ft,.int .i64 cid,.int .i64 ak,fv,vv,.string wd,.int .i64 g0,.int .i64 g1,.int .i64 g2,.string s,.int .i64 x,.int .i64 y]] w fun e w'=>e= .returned (.bool true)∧P2 w':=by
 have hDl:=blkLt hD;have HC:Hid (∀W:World,W.heap[D]?=some (.cells #[ptrV X,ptrV Xr] 201 (0,0))∧W.heap[w.heap.size]?=some OB→W.cell? ⟨D,0,none⟩=some (.pointer (some ⟨X,0,none⟩))∧W.cell? ⟨D,1,none⟩=some (.pointer (some ⟨Xr,0,none⟩))∧W.cell? ⟨w.heap.size,0,none⟩=some (.int .i64 10)∧W.cell? ⟨w.heap.size,16,none⟩=some (.int .i64 x)∧W.cell? ⟨w.heap.size,15,none⟩=some (.string s)∧D<W.heap.size∧w.heap.size<W.heap.size):=fun W hW=>by
  have hW2:=hW.2;rw[hOB]at hW2;exact⟨blkCell hW.1 0,blkCell hW.1 1,blkCell hW2 0,blkCell hW2 16,blkCell hW2 15,blkLt hW.1,blkLt hW2⟩
 have hw0:(w.alloc OB).heap[D]?=some (.cells #[ptrV X,ptrV Xr] 201 (0,0))∧(w.alloc OB).heap[w.heap.size]?=some OB:=⟨(Below.heap_alloc _ _ _ hDl).trans hD,blkNew w OB⟩
 obtain⟨d0,d1,o0,o16,o15,l1,l2⟩:=HC.out _ hw0;have H1:=hide' h1;have H2:=hide' h2;have K1:=hide' k1;have K2:=hide' k2;clear h1 h2 k1 k2 hD hw0;unfold ptrV at*;go_enter Tryz.func71,Tryz.ntmps71;go_wp2_with fail
 rw[←hOB];clear hOB;generalize w.alloc OB=w0 at*;go_region_held3 (fun W'=>W'.cell? ⟨D,0,none⟩=some (.pointer (some ⟨X,0,none⟩))∧W'.cell? ⟨w.heap.size,16,none⟩=some (.int .i64 x)∧W'.cell? ⟨w.heap.size,15,none⟩=some (.string s)) (go_keep) (first
  |(go_at_call 28;refine H1.out.mono ?_;rintro e w1 ⟨rfl,hp1⟩;obtain⟨d10,d11,o10,o116,o115,l11,l12⟩:=HC.out _ (K1.out _ hp1);have HP1:=hide' hp1;clear hp1 d0 d1 o0 o16 o15 l1 l2)
  |fail)
 have HQ:=hide' (H2.out w1 HP1.out);go_wp2_with fail
 go_region_held3 (fun W'=>W'.cell? ⟨D,1,none⟩=some (.pointer (some ⟨Xr,0,none⟩))∧W'.cell? ⟨w.heap.size,16,none⟩=some (.int .i64 x)∧W'.cell? ⟨w.heap.size,15,none⟩=some (.string s)) (go_keep) (first
  |(go_at_call 115;refine HQ.out.mono ?_;rintro e w2 ⟨rfl,hp2⟩;obtain⟨d20,d21,o20,o216,o215,l21,l22⟩:=HC.out _ (K2.out _ hp2);have HP2:=hide' hp2;clear hp2 d10 d11 o10 o116 o115 l11 l12)
  |fail)
 go_wp2_with (first|(go_at_call 99;refine(lawnum _ _).mono ?_;rintro e w3 ⟨rfl,hw3⟩;subst hw3)|fail)
 go_ret;exact⟨rfl,HP2.out⟩
end Go.Proofs.YtlonjggfnleolaaGreatDoor
