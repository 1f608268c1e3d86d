import Derived.Test.YtlonjggfnleolaaGreatDoorNwE
import Derived.Test.YtlonjggfnleolaaGreatDoorOpenB
import Derived.Test.YtlonjggfnleolaaGreatDoorRnL
namespace Go.Proofs.YtlonjggfnleolaaGreatDoor
open Go.RowKit Go.Shelf
set_option linter.unusedVariables false
set_option maxHeartbeats 2000000
set_option maxRecDepth 20000
variable {w w1:World}{lo:Nat}{d:JqI}{OB:Obj}{cv:Value}{cis:List CliV}{cs:List CliQ}{vs:List SrvV}{ss:List SrvQ}
structure HalfQ (w w1:World)(lo:Nat)(d:JqI)(OB:Obj)(cv:Value)(cis:List CliV)(cs:List CliQ)(vs:List SrvV)(ss:List SrvQ):Prop where
 jun:JunQ w1 d.X d.sv d.pt d.win d.g d.sc cv cis cs vs ss
 ref:RJunQ w1 d.Xr d.sv d.pt d.win d.rcv d.rrv d.rcis d.cs d.rvs d.ss
 chg:Chg d.footP w w1
 lat:Later w d.footP (footQ d.X cv cis vs)
 ob:w1.heap[w.heap.size]?=some OB
 blk:w1.heap[d.D]?=some (.cells #[ptrV d.X,ptrV d.Xr] 201 (0,0))
theorem JqOk.half {W0:World}(h:JqOk w lo d)(hb:Below w.heap.size w W0)(hO:W0.heap[w.heap.size]?=some OB)(hj:JunQ w1 d.X d.sv d.pt d.win d.g d.sc cv cis cs vs ss)(k:Chg d.footP W0 w1)(l:Later W0 d.footP (footQ d.X cv cis vs)):HalfQ w w1 lo d OB cv cis cs vs ss:=by
 have kk:Chg d.footP w w1:=(Chg.of_below (M:=d.footP) hb).trans k (Later.refl _ _);have kT:∀Ts:List Nat,(∀t∈Ts,t∉tysJP)→KeepT Ts w w1:=fun Ts hTs=>keepTys kk (fun b hb Z T f hZ=>h.jun.types hb hZ) hTs
 refine⟨hj,h.ref.keep kk.size (fun b hm=>kk.block b (h.ref.old hm) (fun hp=>h.ap b hp hm)) (kT _ (by decide)),kk,fun b hb'=>?_,(k.block _ (blkLt hO) (fun hm=>?_)).trans hO,((kT [201] (by decide)) _ _ _ _ h.blk (by simp)).trans h.blk⟩
 ·rcases l b hb' with e|e
  ·exact .inl e
  ·exact .inr (Nat.le_trans hb.size e)
 ·have:=h.jun.old _ hm;omega
theorem HalfQ.whole {w2:World}(h:HalfQ w w1 lo d OB cv cis cs vs ss)(h0:JqOk w lo d)(hlo:lo≤w.heap.size){rcv:Value}{rcis:List RCliV}(hr:RJunQ w2 d.Xr d.sv d.pt d.win rcv d.rrv rcis cs d.rvs ss)(k:Chg d.footR w1 w2)(l:Later w1 d.footR (footRJ d.Xr rcv rcis d.rvs)):JqOk w2 lo {d with cv:=cv,cis:=cis,cs:=cs,vs:=vs,ss:=ss,rcv:=rcv,rcis:=rcis}∧Chg d.foot w w2∧Later w d.foot ({d with cv:=cv,cis:=cis,cs:=cs,vs:=vs,ss:=ss,rcv:=rcv,rcis:=rcis}:JqI).foot∧w2.heap[w.heap.size]?=some OB∧w2.heap[d.D]?=some (.cells #[ptrV d.X,ptrV d.Xr] 201 (0,0)):=by
 have kT:∀Ts:List Nat,(∀t∈Ts,t∉tysJR)→KeepT Ts w1 w2:=fun Ts hTs=>keepTys k (fun b hb Z T f hZ=>h.ref.typesR hb hZ) hTs
 have l2:Later w d.foot ({d with cv:=cv,cis:=cis,cs:=cs,vs:=vs,ss:=ss,rcv:=rcv,rcis:=rcis}:JqI).foot:=fun b hb=>by
  rcases List.mem_append.1 hb with e|e
  ·rcases h.lat b e with e|e
   ·exact .inl (List.mem_append.2 (.inl e))
   ·exact .inr e
  ·rcases l b e with e|e
   ·exact .inl (List.mem_append.2 (.inr e))
   ·exact .inr (Nat.le_trans h.chg.size e)
 have hD:=((kT [201] (by decide)) _ _ _ _ h.blk (by simp)).trans h.blk;have apP:∀b∈footQ d.X cv cis vs,b∉d.footR:=fun b hb hq=>by
  rcases h.lat b hb with e|e
  ·exact h0.ap b e hq
  ·have:=h0.ref.old hq;omega
 refine⟨⟨hD,h.jun.keepL (fun b hm=>k.block b (h.jun.old b hm) (apP b hm)) (kT _ (by decide)),hr,fun b hb hq=>?_,fun b hb=>?_⟩,?_,l2,?_,hD⟩
 ·rcases l b hq with e|e
  ·exact apP b hb e
  ·have:=h.jun.old b hb;omega
 ·rcases l2 b hb with e|e
  ·exact h0.ge b e
  ·omega
 ·refine(h.chg.more (fun x hx=>List.mem_append.2 (.inl hx))).trans k (fun b hb=> .inl (List.mem_append.2 (.inr hb)))
 ·refine(k.block _ (blkLt h.ob) (fun hm=>?_)).trans h.ob;have:=h0.ref.old hm;omega
theorem joined_answer (D X Xr:Nat)(at' ck:Int)(kv:Value)(val cw:ByteArray)(ft:Bool)(cid ak:Int)(fv vv:Value)(wd:ByteArray)(g0 g1 g2:Int)(s:ByteArray)(x y:Int)(w:World)(a:Int)(OB:Obj)(P1 P2:World→Prop)(hOB:OB= .cells #[.int .i64 13,.int .i64 at',.int .i64 ck,kv,.string val,.string cw,.bool ft,.int .i64 cid,.int .i64 ak,fv,vv,.string wd,.int .i64 g0,.int .i64 g1,.int .i64 g2,.string s,.int .i64 x,.int .i64 y] 95)(hD:w.heap[D]?=some (.cells #[ptrV X,ptrV Xr] 201 (0,0)))(h1:Calls Tryz.prog 32 #[ptrV X,.int .i64 x,.string s] (w.alloc OB).drew fun e w1=>e= .returned (.int .i64 a)∧P1 w1)(h2:∀w1,P1 w1→Calls Tryz.prog 116 #[ptrV Xr,.int .i64 x,.string s] w1.drew fun e w2=>e= .returned (.int .i64 a)∧P2 w2)(k1:∀w1,P1 w1→w1.heap[D]?=some (.cells #[ptrV X,ptrV Xr] 201 (0,0))∧w1.heap[w.heap.size]?=some OB)(k2:∀w2,P2 w2→w2.heap[D]?=some (.cells #[ptrV X,ptrV Xr] 201 (0,0))∧w2.heap[w.heap.size]?=some OB):Calls Tryz.prog 71 #[ptrV D,Value.agg #[.int .i64 13,.int .i64 at',.int .i64 ck,kv,.string val,.string cw,.bool ft,.int .i64 cid,.int .i64 ak,fv,vv,.string wd,.int .i64 g0,.int .i64 g1,.int .i64 g2,.string s,.int .i64 x,.int .i64 y]] w fun e w'=>e= .returned (.bool true)∧P2 w':=by
 have hDl:=blkLt hD;have HC:Hid (∀W:World,W.heap[D]?=some (.cells #[ptrV X,ptrV Xr] 201 (0,0))∧W.heap[w.heap.size]?=some OB→W.cell? ⟨D,0,none⟩=some (.pointer (some ⟨X,0,none⟩))∧W.cell? ⟨D,1,none⟩=some (.pointer (some ⟨Xr,0,none⟩))∧W.cell? ⟨w.heap.size,0,none⟩=some (.int .i64 13)∧W.cell? ⟨w.heap.size,16,none⟩=some (.int .i64 x)∧W.cell? ⟨w.heap.size,15,none⟩=some (.string s)∧D<W.heap.size∧w.heap.size<W.heap.size):=fun W hW=>by
  have hW2:=hW.2;rw[hOB]at hW2;exact⟨blkCell hW.1 0,blkCell hW.1 1,blkCell hW2 0,blkCell hW2 16,blkCell hW2 15,blkLt hW.1,blkLt hW2⟩
 have hw0:(w.alloc OB).heap[D]?=some (.cells #[ptrV X,ptrV Xr] 201 (0,0))∧(w.alloc OB).heap[w.heap.size]?=some OB:=⟨(Below.heap_alloc _ _ _ hDl).trans hD,blkNew w OB⟩
 obtain⟨d0,d1,o0,o16,o15,l1,l2⟩:=HC.out _ hw0;have H1:=hide' h1;have H2:=hide' h2;have K1:=hide' k1;have K2:=hide' k2;clear h1 h2 k1 k2 hD hw0;unfold ptrV at*;go_enter Tryz.func71,Tryz.ntmps71;go_wp2_with fail
 rw[←hOB];clear hOB;generalize w.alloc OB=w0 at*;go_region_held3 (fun W'=>W'.cell? ⟨D,0,none⟩=some (.pointer (some ⟨X,0,none⟩))∧W'.cell? ⟨w.heap.size,16,none⟩=some (.int .i64 x)∧W'.cell? ⟨w.heap.size,15,none⟩=some (.string s)) (go_keep) (first
  |(go_at_call 32;refine H1.out.mono ?_;rintro e w1 ⟨rfl,hp1⟩;obtain⟨d10,d11,o10,o116,o115,l11,l12⟩:=HC.out _ (K1.out _ hp1);have HP1:=hide' hp1;clear hp1 d0 d1 o0 o16 o15 l1 l2)
  |fail)
 have HQ:=hide' (H2.out w1 HP1.out);go_wp2_with fail
 go_region_held3 (fun W'=>W'.cell? ⟨D,1,none⟩=some (.pointer (some ⟨Xr,0,none⟩))∧W'.cell? ⟨w.heap.size,16,none⟩=some (.int .i64 x)∧W'.cell? ⟨w.heap.size,15,none⟩=some (.string s)) (go_keep) (first
  |(go_at_call 116;refine HQ.out.mono ?_;rintro e w2 ⟨rfl,hp2⟩;obtain⟨d20,d21,o20,o216,o215,l21,l22⟩:=HC.out _ (K2.out _ hp2);have HP2:=hide' hp2;clear hp2 d10 d11 o10 o116 o115 l11 l12)
  |fail)
 go_wp2_with (first|(go_at_call 99;refine(lawnum _ _).mono ?_;rintro e w3 ⟨rfl,hw3⟩;subst hw3)|fail)
 go_ret;exact⟨rfl,HP2.out⟩
theorem joined_down (D X Xr:Nat)(at' ck:Int)(kv:Value)(val cw:ByteArray)(ft:Bool)(cid ak:Int)(fv vv:Value)(wd:ByteArray)(g0 g1 g2:Int)(s:ByteArray)(x y:Int)(w:World)(a:Int)(OB:Obj)(P1 P2:World→Prop)(hOB:OB= .cells #[.int .i64 14,.int .i64 at',.int .i64 ck,kv,.string val,.string cw,.bool ft,.int .i64 cid,.int .i64 ak,fv,vv,.string wd,.int .i64 g0,.int .i64 g1,.int .i64 g2,.string s,.int .i64 x,.int .i64 y] 95)(hD:w.heap[D]?=some (.cells #[ptrV X,ptrV Xr] 201 (0,0)))(h1:Calls Tryz.prog 33 #[ptrV X,.int .i64 x] (w.alloc OB).drew fun e w1=>e= .returned (.int .i64 a)∧P1 w1)(h2:∀w1,P1 w1→Calls Tryz.prog 117 #[ptrV Xr,.int .i64 x] w1.drew fun e w2=>e= .returned (.int .i64 a)∧P2 w2)(k1:∀w1,P1 w1→w1.heap[D]?=some (.cells #[ptrV X,ptrV Xr] 201 (0,0))∧w1.heap[w.heap.size]?=some OB)(k2:∀w2,P2 w2→w2.heap[D]?=some (.cells #[ptrV X,ptrV Xr] 201 (0,0))∧w2.heap[w.heap.size]?=some OB):Calls Tryz.prog 71 #[ptrV D,Value.agg #[.int .i64 14,.int .i64 at',.int .i64 ck,kv,.string val,.string cw,.bool ft,.int .i64 cid,.int .i64 ak,fv,vv,.string wd,.int .i64 g0,.int .i64 g1,.int .i64 g2,.string s,.int .i64 x,.int .i64 y]] w fun e w'=>e= .returned (.bool true)∧P2 w':=by
 have hDl:=blkLt hD;have HC:Hid (∀W:World,W.heap[D]?=some (.cells #[ptrV X,ptrV Xr] 201 (0,0))∧W.heap[w.heap.size]?=some OB→W.cell? ⟨D,0,none⟩=some (.pointer (some ⟨X,0,none⟩))∧W.cell? ⟨D,1,none⟩=some (.pointer (some ⟨Xr,0,none⟩))∧W.cell? ⟨w.heap.size,0,none⟩=some (.int .i64 14)∧W.cell? ⟨w.heap.size,16,none⟩=some (.int .i64 x)∧D<W.heap.size∧w.heap.size<W.heap.size):=fun W hW=>by
  have hW2:=hW.2;rw[hOB]at hW2;exact⟨blkCell hW.1 0,blkCell hW.1 1,blkCell hW2 0,blkCell hW2 16,blkLt hW.1,blkLt hW2⟩
 have hw0:(w.alloc OB).heap[D]?=some (.cells #[ptrV X,ptrV Xr] 201 (0,0))∧(w.alloc OB).heap[w.heap.size]?=some OB:=⟨(Below.heap_alloc _ _ _ hDl).trans hD,blkNew w OB⟩
 obtain⟨d0,d1,o0,o16,l1,l2⟩:=HC.out _ hw0;have H1:=hide' h1;have H2:=hide' h2;have K1:=hide' k1;have K2:=hide' k2;clear h1 h2 k1 k2 hD hw0;unfold ptrV at*;go_enter Tryz.func71,Tryz.ntmps71;go_wp2_with fail
 rw[←hOB];clear hOB;generalize w.alloc OB=w0 at*;go_region_held3 (fun W'=>W'.cell? ⟨D,0,none⟩=some (.pointer (some ⟨X,0,none⟩))∧W'.cell? ⟨w.heap.size,16,none⟩=some (.int .i64 x)) (go_keep) (first
  |(go_at_call 33;refine H1.out.mono ?_;rintro e w1 ⟨rfl,hp1⟩;obtain⟨d10,d11,o10,o116,l11,l12⟩:=HC.out _ (K1.out _ hp1);have HP1:=hide' hp1;clear hp1 d0 d1 o0 o16 l1 l2)
  |fail)
 have HQ:=hide' (H2.out w1 HP1.out);go_wp2_with fail
 go_region_held3 (fun W'=>W'.cell? ⟨D,1,none⟩=some (.pointer (some ⟨Xr,0,none⟩))∧W'.cell? ⟨w.heap.size,16,none⟩=some (.int .i64 x)) (go_keep) (first
  |(go_at_call 117;refine HQ.out.mono ?_;rintro e w2 ⟨rfl,hp2⟩;obtain⟨d20,d21,o20,o216,l21,l22⟩:=HC.out _ (K2.out _ hp2);have HP2:=hide' hp2;clear hp2 d10 d11 o10 o116 l11 l12)
  |fail)
 go_wp2_with (first|(go_at_call 99;refine(lawnum _ _).mono ?_;rintro e w3 ⟨rfl,hw3⟩;subst hw3)|fail)
 go_ret;exact⟨rfl,HP2.out⟩
theorem joined_up (D X Xr:Nat)(at' ck:Int)(kv:Value)(val cw:ByteArray)(ft:Bool)(cid ak:Int)(fv vv:Value)(wd:ByteArray)(g0 g1 g2:Int)(s:ByteArray)(x y:Int)(w:World)(a:Int)(OB:Obj)(P1 P2:World→Prop)(hOB:OB= .cells #[.int .i64 15,.int .i64 at',.int .i64 ck,kv,.string val,.string cw,.bool ft,.int .i64 cid,.int .i64 ak,fv,vv,.string wd,.int .i64 g0,.int .i64 g1,.int .i64 g2,.string s,.int .i64 x,.int .i64 y] 95)(hD:w.heap[D]?=some (.cells #[ptrV X,ptrV Xr] 201 (0,0)))(h1:Calls Tryz.prog 34 #[ptrV X,.int .i64 x] (w.alloc OB).drew fun e w1=>e= .returned (.int .i64 a)∧P1 w1)(h2:∀w1,P1 w1→Calls Tryz.prog 118 #[ptrV Xr,.int .i64 x] w1.drew fun e w2=>e= .returned (.int .i64 a)∧P2 w2)(k1:∀w1,P1 w1→w1.heap[D]?=some (.cells #[ptrV X,ptrV Xr] 201 (0,0))∧w1.heap[w.heap.size]?=some OB)(k2:∀w2,P2 w2→w2.heap[D]?=some (.cells #[ptrV X,ptrV Xr] 201 (0,0))∧w2.heap[w.heap.size]?=some OB):Calls Tryz.prog 71 #[ptrV D,Value.agg #[.int .i64 15,.int .i64 at',.int .i64 ck,kv,.string val,.string cw,.bool ft,.int .i64 cid,.int .i64 ak,fv,vv,.string wd,.int .i64 g0,.int .i64 g1,.int .i64 g2,.string s,.int .i64 x,.int .i64 y]] w fun e w'=>e= .returned (.bool true)∧P2 w':=by
 have hDl:=blkLt hD;have HC:Hid (∀W:World,W.heap[D]?=some (.cells #[ptrV X,ptrV Xr] 201 (0,0))∧W.heap[w.heap.size]?=some OB→W.cell? ⟨D,0,none⟩=some (.pointer (some ⟨X,0,none⟩))∧W.cell? ⟨D,1,none⟩=some (.pointer (some ⟨Xr,0,none⟩))∧W.cell? ⟨w.heap.size,0,none⟩=some (.int .i64 15)∧W.cell? ⟨w.heap.size,16,none⟩=some (.int .i64 x)∧D<W.heap.size∧w.heap.size<W.heap.size):=fun W hW=>by
  have hW2:=hW.2;rw[hOB]at hW2;exact⟨blkCell hW.1 0,blkCell hW.1 1,blkCell hW2 0,blkCell hW2 16,blkLt hW.1,blkLt hW2⟩
 have hw0:(w.alloc OB).heap[D]?=some (.cells #[ptrV X,ptrV Xr] 201 (0,0))∧(w.alloc OB).heap[w.heap.size]?=some OB:=⟨(Below.heap_alloc _ _ _ hDl).trans hD,blkNew w OB⟩
 obtain⟨d0,d1,o0,o16,l1,l2⟩:=HC.out _ hw0;have H1:=hide' h1;have H2:=hide' h2;have K1:=hide' k1;have K2:=hide' k2;clear h1 h2 k1 k2 hD hw0;unfold ptrV at*;go_enter Tryz.func71,Tryz.ntmps71;go_wp2_with fail
 rw[←hOB];clear hOB;generalize w.alloc OB=w0 at*;go_region_held3 (fun W'=>W'.cell? ⟨D,0,none⟩=some (.pointer (some ⟨X,0,none⟩))∧W'.cell? ⟨w.heap.size,16,none⟩=some (.int .i64 x)) (go_keep) (first
  |(go_at_call 34;refine H1.out.mono ?_;rintro e w1 ⟨rfl,hp1⟩;obtain⟨d10,d11,o10,o116,l11,l12⟩:=HC.out _ (K1.out _ hp1);have HP1:=hide' hp1;clear hp1 d0 d1 o0 o16 l1 l2)
  |fail)
 have HQ:=hide' (H2.out w1 HP1.out);go_wp2_with fail
 go_region_held3 (fun W'=>W'.cell? ⟨D,1,none⟩=some (.pointer (some ⟨Xr,0,none⟩))∧W'.cell? ⟨w.heap.size,16,none⟩=some (.int .i64 x)) (go_keep) (first
  |(go_at_call 118;refine HQ.out.mono ?_;rintro e w2 ⟨rfl,hp2⟩;obtain⟨d20,d21,o20,o216,l21,l22⟩:=HC.out _ (K2.out _ hp2);have HP2:=hide' hp2;clear hp2 d10 d11 o10 o116 l11 l12)
  |fail)
 go_wp2_with (first|(go_at_call 99;refine(lawnum _ _).mono ?_;rintro e w3 ⟨rfl,hw3⟩;subst hw3)|fail)
 go_ret;exact⟨rfl,HP2.out⟩
end Go.Proofs.YtlonjggfnleolaaGreatDoor
namespace Go.Proofs.YtlonjggfnleolaaGreatDoor
open Go.RowKit Go.Shelf Go.Conc
set_option linter.unusedVariables false
variable {W:World}{m:Nat}
def svV (v:SvI):SrvV:=⟨v.S,v.m,none,v.bp,v.bv,[]⟩
theorem MapS.none (h:MapAt W m []):∃c,W.heap[m]?=some (.map #[] c):=by
 obtain⟨es,clock,h1,h2⟩:=h;have:es.toList=[]:=by
  cases he:es.toList with
  |nil=>rfl
  |cons a l=>rw[he]at h2;simp at h2
 have:es=#[]:=by
  apply Array.ext';rw[this]
 rw[this]at h1;exact⟨clock,h1⟩
theorem SrvAt.fresh {S:Nat}(h:SvOk W (newS S m) ⟨0,[]⟩):SrvAt W (svV (newS S m)) ⟨true,0,[],[]⟩:=by
 obtain⟨c,hm⟩:=MapS.none h.mp;refine⟨⟨⟨.slice none 0 0,0,h.blk,⟨⟨[],World.ownsRow_nil _ _ _ _,Nat.le_refl _,rfl,by simp⟩,rfl⟩,.inl rfl⟩,fun e=>by cases e⟩,⟨#[],c,hm,rfl,?_⟩,.inl rfl,BldRow.nil _,by show(0:Nat)<65536;omega,fun b hb=>(by cases hb)⟩;simp
theorem JunQ.fresh {X sv pt win g sc:Nat}{vs:List SvI}(h:JunAt W X sv pt win g sc (.slice none 0 0) [] [] vs (List.replicate sv ⟨0,[]⟩))(hw:win≤6)(hf:∀v∈vs,∃S m,v=newS S m):JunQ W X sv pt win g sc (.slice none 0 0) [] [] (vs.map svV) (List.replicate sv ⟨true,0,[],[]⟩)∧feetS (vs.map svV)=feetV vs:=by
 have hfoot:∀v∈vs,(svV v).foot=v.foot:=fun v hv=>by
  obtain⟨S,m,rfl⟩:=hf v hv;rfl
 have at_:∀(j:Nat) (u:SrvV),(vs.map svV)[j]?=some u→∃v,vs[j]?=some v∧u=svV v:=fun j u hu=>by
  rw[List.getElem?_map]at hu;obtain⟨v,hv,rfl⟩:=Option.map_eq_some_iff.1 hu;exact⟨v,hv,rfl⟩
 have hfe:feetS (vs.map svV)=feetV vs:=by
  unfold feetS feetV;rw[List.map_map];congr 1
 obtain⟨Zg,g1,g2⟩:=h.gb;refine⟨⟨h.blk,⟨Zg,g1,fun j u hu=>?_⟩,by rw[List.length_map];exact h.len,h.s1,h.s4,h.sc_,h.pt_,hw,h.row,rfl,Nat.zero_le _,fun i v s hv=>(by simp at hv),fun i j v u _ hv=>(by simp at hv),⟨by rw[List.length_map,List.length_replicate];exact h.len,fun j u s hu hs=>?_,fun i j u1 u2 hij h1 h2=>?_⟩,fun i v hv=>(by simp at hv),fun o u hu=>?_,fun s hs=>(by cases hs)⟩,hfe⟩
 ·obtain⟨v,hv,rfl⟩:=at_ j u hu;exact g2 j v hv
 ·obtain⟨v,hv,rfl⟩:=at_ j u hu;have hj:j<sv:=by rw[←h.len];exact(List.getElem?_eq_some_iff.1 hv).1
  have e:s=⟨true,0,[],[]⟩:=List.eq_of_mem_replicate (List.mem_of_getElem? hs);subst e;obtain⟨S,m,rfl⟩:=hf v (List.mem_of_getElem? hv);exact SrvAt.fresh (h.srv.ok j _ ⟨0,[]⟩ hv (by rw[List.getElem?_replicate];simp[hj]))
 ·obtain⟨v1,hv1,rfl⟩:=at_ i u1 h1;obtain⟨v2,hv2,rfl⟩:=at_ j u2 h2;rw[hfoot v1 (List.mem_of_getElem? hv1),hfoot v2 (List.mem_of_getElem? hv2)];exact h.srv.ap i j v1 v2 hij hv1 hv2
 ·obtain⟨v,hv,rfl⟩:=at_ o u hu;exact MapR.none o []
end Go.Proofs.YtlonjggfnleolaaGreatDoor
namespace Go.Proofs.YtlonjggfnleolaaGreatDoor
open Go.RowKit Go.Shelf
set_option linter.unusedVariables false
set_option maxHeartbeats 1000000
set_option maxRecDepth 100000
variable {w:World}{X sv pt win:Nat}{cv rv:Value}{cis:List RCliV}{cs:List CliQ}{vs:List Nat}{ss:List SrvQ}
theorem ropenQ_no (h:RJunQ w X sv pt win cv rv cis cs vs ss)(d:Int)(hd:(d<1∨3<d)∨cis.length=4):Calls Tryz.prog 112 #[.pointer (some ⟨X,0,none⟩),.int .i64 d] w fun e w'=>e= .returned (.tuple #[.int .i64 0,.int .i64 1])∧w'=w:=by
 obtain⟨a,c,rfl⟩:=row_form h.crow;have hb:=h.blk;unfold rjO at hb;have c3:=blkCell hb 3;simp at c3;have hlt:=blkLt hb;clear h hb;by_cases h0:d<1
 ·go_enter Tryz.func112,Tryz.ntmps112;go_wp2;go_ret2;exact⟨rfl,rfl⟩
 by_cases h1:3<d
 ·go_enter Tryz.func112,Tryz.ntmps112;go_wp2;go_ret2;exact⟨rfl,rfl⟩
 have h4:cis.length=4:=by
  rcases hd with h|h
  ·omega
  ·exact h
 rw[h4]at c3;clear hd h4;go_enter Tryz.func112,Tryz.ntmps112;go_wp2;go_ret2;exact⟨rfl,rfl⟩
def ROpenQ (w w':World)(X sv pt win:Nat)(cv rv:Value)(cis:List RCliV)(cs:List CliQ)(vs:List Nat)(ss:List SrvQ)(d:Int):Prop:=∃(cv':Value) (v:RCliV),RJunQ w' X sv pt win cv' rv (cis++[v]) (cs++[newQ d]) vs ss∧Chg (X::cv.ownBlock.toList) w w'∧(cv'.ownBlock=cv.ownBlock∨∃g,cv'.ownBlock=some g∧w.heap.size≤g)∧w.heap.size≤v.K∧w.heap.size≤v.Y∧v.wv.ownBlock=none
theorem ropenQ_yes (h:RJunQ w X sv pt win cv rv cis cs vs ss)(d:Int)(hd:d=1∨d=2∨d=3)(hn:cis.length<4):Calls Tryz.prog 112 #[.pointer (some ⟨X,0,none⟩),.int .i64 d] w fun e w'=>e= .returned (.tuple #[.int .i64 (cis.length:Int),.int .i64 0])∧ROpenQ w w' X sv pt win cv rv cis cs vs ss d:=by
 obtain⟨a,c,rfl⟩:=row_form h.crow;have hb:=h.blk;unfold rjO at hb;have c3:=blkCell hb 3;simp at c3;have cf:=blkFree hb 3;have hlt:=blkLt hb;have hXg:(Value.slice a cis.length c).ownBlock≠some X:=fun e=>by
  obtain⟨cur,hc⟩:=ownsRow_blk h.crow e;rw[hb]at hc;cases hc
 have HXG:=hide' hXg;have h1:¬d<1:=by omega
 have h2:¬3<d:=by omega
 have h3:¬(4:Int)≤(cis.length:Int):=by omega
 have HRow:Hid ((((w.alloc (refO d st0)).alloc (rcO d w.heap.size (.slice none 0 0) [])).alloc (.cells #[.pointer (some ⟨w.heap.size+1,0,none⟩)] 244)).ownsRow 0 244 1 (.slice a cis.length c) cis.length (cis.map (fun v=>ptrV v.K))):=World.ownsRow.alloc (World.ownsRow.alloc (World.ownsRow.alloc h.crow _) _) _;have HNw:=hide' (show∀(k:Nat) (u:Value),[Value.pointer (some ⟨w.heap.size+1,0,none⟩)][k]?=some u→(((w.alloc (refO d st0)).alloc (rcO d w.heap.size (.slice none 0 0) [])).alloc (.cells #[.pointer (some ⟨w.heap.size+1,0,none⟩)] 244)).cell? ((⟨w.heap.size+2,0,none⟩:Addr).add k)=some u from World.news_of_block (cs:=#[.pointer (some ⟨w.heap.size+1,0,none⟩)]) (hs_new (by simp)));obtain⟨i1,hi,hz0,hz1,hz2⟩:=info244
 have HI:=hide' (And.intro hi (And.intro hz0 (And.intro hz1 hz2)));have HFin:Hid (∀(g2 cap2:Nat) (wa:World),wa.ownsRow 0 244 1 (.slice (some ⟨g2,0,none⟩) (cis.length+1) cap2) (cis.length+1) (cis.map (fun v=>ptrV v.K)++[.pointer (some ⟨w.heap.size+1,0,none⟩)])→(((w.alloc (refO d st0)).alloc (rcO d w.heap.size (.slice none 0 0) [])).alloc (.cells #[.pointer (some ⟨w.heap.size+1,0,none⟩)] 244)).grownBy wa (Value.slice a cis.length c).ownBlock→((Value.slice a cis.length c).ownBlock=some g2∨g2=(((w.alloc (refO d st0)).alloc (rcO d w.heap.size (.slice none 0 0) [])).alloc (.cells #[.pointer (some ⟨w.heap.size+1,0,none⟩)] 244)).heap.size)→RJunQ (wa.setCell ⟨X,3,none⟩ (.slice (some ⟨g2,0,none⟩) (cis.length+1) cap2)) X sv pt win (.slice (some ⟨g2,0,none⟩) (cis.length+1) cap2) rv (cis++[⟨w.heap.size+1,w.heap.size,.slice none 0 0,[]⟩]) (cs++[newQ d]) vs ss∧Chg (X::(Value.slice a cis.length c).ownBlock.toList) w (wa.setCell ⟨X,3,none⟩ (.slice (some ⟨g2,0,none⟩) (cis.length+1) cap2))∧((Value.slice (some ⟨g2,0,none⟩) (cis.length+1) cap2).ownBlock=(Value.slice a cis.length c).ownBlock∨∃g,(Value.slice (some ⟨g2,0,none⟩) (cis.length+1) cap2).ownBlock=some g∧w.heap.size≤g)):=fun g2 cap2 wa hown hgrow hat=>by
  have hb3:Below w.heap.size w (((w.alloc (refO d st0)).alloc (rcO d w.heap.size (.slice none 0 0) [])).alloc (.cells #[.pointer (some ⟨w.heap.size+1,0,none⟩)] 244)):=(((Below.refl _ w).alloc (Nat.le_refl _) _).alloc (by simp) _).alloc (by simp;omega) _;have hk:Chg (X::(Value.slice a cis.length c).ownBlock.toList) w (wa.setCell ⟨X,3,none⟩ (.slice (some ⟨g2,0,none⟩) (cis.length+1) cap2)):=((Chg.of_below hb3).grown hgrow (fun b e=> .inl (by simp[e]))).set (.inl (by simp)) _;have hcv:∀b,(Value.slice a cis.length c).ownBlock=some b→b<w.heap.size:=fun b e=>by
   obtain⟨cur,hc⟩:=ownsRow_blk h.crow e;exact blkLt hc
  have hXa:wa.heap[X]?=some (rjO sv pt win (.slice a cis.length c) rv):=(hgrow.block X (by simp;omega) (fun e=>hXg e.symm)).trans ((hb3.block X hlt).trans h.blk);have keep3:∀(b:Nat) (o:Obj),(((w.alloc (refO d st0)).alloc (rcO d w.heap.size (.slice none 0 0) [])).alloc (.cells #[.pointer (some ⟨w.heap.size+1,0,none⟩)] 244)).heap[b]?=some o→w.heap.size≤b→(wa.setCell ⟨X,3,none⟩ (.slice (some ⟨g2,0,none⟩) (cis.length+1) cap2)).heap[b]?=some o:=fun b o hb' hle=>(Below.heap_setCell wa ⟨X,3,none⟩ _ b (by show b≠X;omega)).trans ((hgrow.block b (blkLt hb') (fun e=>by have:=hcv b e.symm;omega)).trans hb')
  refine⟨h.opened (K:=w.heap.size+1) (Y:=w.heap.size) hn hk.size (by omega) (Nat.le_refl _) (KeepT.chg hk (fun b T Z f hm hZ hT=>?_)) (blkSet (i:=3) hXa _) ?_ (keep3 _ _ ((Below.heap_alloc _ _ _ (by simp;omega)).trans ((Below.heap_alloc _ _ _ (by simp)).trans (blkNew w _))) (Nat.le_refl _)) (keep3 _ _ ((Below.heap_alloc _ _ _ (by simp)).trans (hs_new (by simp))) (by omega)),hk,?_⟩
  ·rcases List.mem_cons.1 hm with e|e
   ·rw[e,hb]at hZ;simp at hZ;rw[←hZ.2.1]at hT;simp at hT
   ·obtain⟨cur,hc⟩:=ownsRow_blk h.crow (optMem e);rw[hc]at hZ;simp at hZ;rw[←hZ.2.1]at hT;simp at hT
  ·exact ownsRow_other hown (fun gg hg=>by
    cases hg;refine Below.heap_setCell wa ⟨X,3,none⟩ _ g2 (fun e=>?_);obtain⟨cur,hc⟩:=ownsRow_blk hown rfl;rw[show g2=X from e,hXa]at hc;unfold rjO at hc;cases hc)
  ·rcases hat with e|e
   ·exact .inl e.symm
   ·exact .inr ⟨g2,rfl,by simp at e;omega⟩
 unfold refO rcO mkB st0 at HRow HNw HFin;clear h hb hi hz0 hz1 hz2 hXg hd;go_enter Tryz.func112,Tryz.ntmps112;go_wp2_with (first
  |(at_builtin;refine wpList_append_lies _ rfl _ _ _ rfl 0 244 i1 (.pointer none) 1 8 Tryz.underlying237 HI.out.1 HI.out.2.1 HI.out.2.2.1 HI.out.2.2.2 rfl (by omega) (.slice a cis.length c) cis.length (cis.map (fun v=>ptrV v.K)) rfl HRow.out ⟨w.heap.size+2,0,none⟩ 1 1 [.pointer (some ⟨w.heap.size+1,0,none⟩)] rfl rfl HNw.out (by simp[Value.oneCell']) (by omega) (by unfold maxLen;omega) (by omega) (Nat.zero_le _) _ rfl ?_;intro g2 cap2 wa hown hgrow hat hlta;have hcA:wa.cell? ⟨X,3,none⟩=some (.slice a cis.length c):=(hgrow.cell_far ⟨X,3,none⟩ (by simp;omega) (fun e=>HXG.out e.symm)).trans ((World.cell?_of_block ((Below.heap_alloc _ _ _ (by simp;omega)).trans ((Below.heap_alloc _ _ _ (by simp;omega)).trans (Below.heap_alloc w _ _ hlt)))).trans c3);have hfA:wa.frozen? ⟨X,3,none⟩=false:=(hgrow.frozen_far ⟨X,3,none⟩ (by simp;omega) (fun e=>HXG.out e.symm)).trans ((World.frozen?_of_block ((Below.heap_alloc _ _ _ (by simp;omega)).trans ((Below.heap_alloc _ _ _ (by simp;omega)).trans (Below.heap_alloc w _ _ hlt)))).trans cf);have hlxa:X<wa.heap.size:=Nat.lt_of_lt_of_le (by simp;omega) hgrow.size;have HG:=hide' (HFin.out g2 cap2 wa hown hgrow hat);clear hown hgrow hat)
  |fail)
 go_ret2;exact⟨by simp,_,_,HG.out.1,HG.out.2.1,HG.out.2.2,Nat.le_succ _,Nat.le_refl _,rfl⟩
end Go.Proofs.YtlonjggfnleolaaGreatDoor
namespace Go.Proofs.YtlonjggfnleolaaGreatDoor
open Go.RowKit Go.Shelf Go.Conc
set_option linter.unusedVariables false
set_option maxHeartbeats 1000000
set_option maxRecDepth 100000
variable {w:World}{X sv pt win g sc:Nat}{cv:Value}{cis:List CliV}{cs:List CliQ}{vs:List SrvV}{ss:List SrvQ}
theorem openQ_no (h:JunQ w X sv pt win g sc cv cis cs vs ss)(d:Int)(hd:(d<1∨3<d)∨cis.length=4):Calls Tryz.prog 54 #[.pointer (some ⟨X,0,none⟩),.int .i64 d] w fun e w'=>e= .returned (.tuple #[.int .i64 0,.int .i64 1])∧Below w.heap.size w w':=by
 obtain⟨a,c,rfl⟩:=h.cvLen;have c3:=(juCells h.blk).2.2.2.1;have hlt:=blkLt h.blk;clear h;by_cases hdd:d<1∨3<d
 ·have HN:=hide' (decoder_no d w hdd);clear hd hdd;go_enter Tryz.func54,Tryz.ntmps54;go_wp2_with fail
  go_at_call 43;refine HN.out.mono ?_;rintro e w1 ⟨rfl,hb⟩;have HB:=hide' hb;clear hb;go_wp2;go_ret2;exact⟨rfl,HB.out⟩
 ·have h4:cis.length=4:=by rcases hd with h|h;exact absurd h hdd;exact h
  have HN:=hide' (decoder_any d w (by omega));rw[h4]at c3;have hB:Below w.heap.size w (w.alloc (rdO (tyOf d) (.slice none 0 0) 0 false false)):=(Below.refl _ _).alloc (Nat.le_refl _) _;have d3:=(hB.cell (p:=⟨X,3,none⟩) hlt).trans c3;have hlt1:X<(w.alloc (rdO (tyOf d) (.slice none 0 0) 0 false false)).heap.size:=Nat.lt_of_lt_of_le hlt hB.size;have HB:=hide' hB;clear hd hdd h4 hB c3;generalize w.alloc (rdO (tyOf d) (.slice none 0 0) 0 false false)=w1 at*;go_enter Tryz.func54,Tryz.ntmps54;go_wp2_with fail
  go_at_call 43;refine HN.out.mono ?_;rintro e w2 ⟨rfl,hw2⟩;subst hw2;go_wp2;go_ret2;exact⟨rfl,HB.out⟩
theorem openQ_yes (h:JunQ w X sv pt win g sc cv cis cs vs ss)(d:Int)(hd:d=1∨d=2∨d=3)(hn:cis.length<4)(hwin:win≤6):Calls Tryz.prog 54 #[.pointer (some ⟨X,0,none⟩),.int .i64 d] w fun e w'=>e= .returned (.tuple #[.int .i64 (cis.length:Int),.int .i64 0])∧∃(cv':Value) (v:CliV),JunQ w' X sv pt win g sc cv' (cis++[v]) (cs++[newQ d]) vs ss∧Chg (footQ X cv cis vs) w w'∧Later w (footQ X cv cis vs) (footQ X cv' (cis++[v]) vs):=by
 obtain⟨a,c,rfl⟩:=h.cvLen;obtain⟨_,_,c2,c3,_,cf⟩:=juCells h.blk;have hlt:=blkLt h.blk;have HN:=hide' (decoder_any d w hd);have HD:=hide' (dT_ty hd);have hB:Below w.heap.size w (w.alloc (rdO (tyOf d) (.slice none 0 0) 0 false false)):=(Below.refl _ _).alloc (Nat.le_refl _) _;have d3:=(hB.cell (p:=⟨X,3,none⟩) hlt).trans c3;have d2:=(hB.cell (p:=⟨X,2,none⟩) hlt).trans c2;have df:=(hB.frozen (p:=⟨X,3,none⟩) hlt).trans (cf 3);have hlt1:X<(w.alloc (rdO (tyOf d) (.slice none 0 0) 0 false false)).heap.size:=Nat.lt_of_lt_of_le hlt hB.size;have hn4:¬(cis.length:Int)=4:=by omega
 have HRow:Hid (∀W,Below w.heap.size w W→W.ownsRow 0 116 1 (.slice a cis.length c) cis.length (cis.map (fun v=>ptrV v.k.C))):=fun W hW=>ownsRow_other h.row (fun gg hg=>by obtain⟨cur,hc⟩:=ownsRow_blk h.row hg;exact hW.block gg (blkLt hc))
 have HNew:Hid (∀W,Calls Tryz.prog 86 #[.pointer (some ⟨w.heap.size,0,none⟩),.int .i64 (win:Int)] W fun e w'=>e= .returned (.pointer (some ⟨W.heap.size+1,0,none⟩))∧w'=(W.alloc (.chan win #[] false 0 0 false)).alloc (clO w.heap.size W.heap.size (.slice none 0 0) (.pointer none) (.slice none 0 0))):=fun W=>newClient_any w.heap.size win W hwin
 obtain⟨i1,hi,hz0,hz1,hz2⟩:=info116;have HI:=hide' (And.intro hi (And.intro hz0 (And.intro hz1 hz2)));have HB:=hide' hB;have HH:=hide' h;have hXg:(Value.slice a cis.length c).ownBlock≠some X:=fun e=>by
  obtain⟨cur,hc⟩:=ownsRow_blk h.row e;have hb:=h.blk;unfold juO at hb;rw[hb]at hc;cases hc
 have HXG:=hide' hXg;clear hB c3 c2 cf h hi hz0 hz1 hz2 hd hXg;generalize hw1:w.alloc (rdO (tyOf d) (.slice none 0 0) 0 false false)=w1 at*;have HW1:=hide' hw1;clear hw1;go_enter Tryz.func54,Tryz.ntmps54;go_wp2_with fail
 go_at_call 43;refine HN.out.mono ?_;rintro e w2 ⟨rfl,hw2⟩;subst hw2;go_wp2_with fail
 go_region_law (first
  |(go_simp;go_at_call 86;refine(HNew.out _).mono ?_;rintro e w3 ⟨rfl,hw3⟩;have hb3:Below w2.heap.size w2 w3:=(by rw[hw3];exact((Below.refl _ w2).drew.alloc (Nat.le_refl _) _).alloc (by simp) _);have HW3:=hide' (And.intro hw3 hb3);have e3:=(hb3.cell (p:=⟨X,3,none⟩) hlt1).trans d3;have e2:=(hb3.cell (p:=⟨X,2,none⟩) hlt1).trans d2;have ef:=(hb3.frozen (p:=⟨X,3,none⟩) hlt1).trans df;have hlt3:=Nat.lt_of_lt_of_le hlt1 hb3.size;clear hw3 hb3)
  |(refine step_append_lies _ (by rfl) _ _ _ (by rfl) 0 116 i1 (.pointer none) 1 8 Tryz.underlying126 HI.out.1 HI.out.2.1 HI.out.2.2.1 HI.out.2.2.2 (by rfl) (by omega) (.slice a cis.length c) cis.length (cis.map (fun v=>ptrV v.k.C)) (by rfl) (HRow.out _ ((HB.out.trans (HW3.out.2.mono HB.out.size)).alloc (Nat.le_trans HB.out.size HW3.out.2.size) _)) ⟨w3.heap.size,0,none⟩ 1 1 [.pointer (some ⟨w2.heap.size+1,0,none⟩)] (by rfl) (by rfl) (World.news_of_block (cs:=#[.pointer (some ⟨w2.heap.size+1,0,none⟩)]) (blkNew w3 _)) (fun u hu=>by simp at hu;subst hu;rfl) (by omega) (by unfold maxLen;omega) (by omega) (Nat.zero_le _) _ rfl ?_;intro g2 cap2 wa hown hgrow hat hlta;have hcA:wa.cell? ⟨X,3,none⟩=some (.slice a cis.length c):=(hgrow.cell_far ⟨X,3,none⟩ (by simp;omega) (fun e=>HXG.out e.symm)).trans ((World.cell?_of_block (w:=w3) (Below.heap_alloc w3 _ _ hlt3)).trans e3);have hfA:wa.frozen? ⟨X,3,none⟩=false:=(hgrow.frozen_far ⟨X,3,none⟩ (by simp;omega) (fun e=>HXG.out e.symm)).trans ((World.frozen?_of_block (w:=w3) (Below.heap_alloc w3 _ _ hlt3)).trans ef);have HG:=hide' (And.intro hown (And.intro hgrow (And.intro hat hlta)));clear hown hgrow hat)
  |fail)
 all_goals
  have hX3:w3.heap[X]?=some (juO sv pt win (.slice a cis.length c) (.slice (some ⟨g,0,none⟩) sv sc)):=(HW3.out.2.block X hlt1).trans ((HB.out.block X hlt).trans HH.out.blk)
  have keep:∀(b:Nat) (o:Obj),w3.heap[b]?=some o→(Value.slice a cis.length c).ownBlock≠some b→wa.heap[b]?=some o:=fun b o hb hn=>(HG.out.2.1.block b (by rw[World.size_alloc];have:=blkLt hb;omega) (fun e=>hn e.symm)).trans ((Below.heap_alloc _ _ _ (blkLt hb)).trans hb)
  have hXa:=keep X _ hX3 HXG.out
  have hXf:=blkSet (i:=3) hXa (.slice (some ⟨g2,0,none⟩) (cis.length+1) cap2)
  have hcv:∀b,(Value.slice a cis.length c).ownBlock=some b→b<w.heap.size:=fun b e=>by
   obtain⟨cur,hc⟩:=ownsRow_blk HH.out.row e;exact blkLt hc
  have keep2:∀(b:Nat) (o:Obj),w3.heap[b]?=some o→w.heap.size≤b→(wa.setCell ⟨X,3,none⟩ (.slice (some ⟨g2,0,none⟩) (cis.length+1) cap2)).heap[b]?=some o:=fun b o hb hle=>(Below.heap_setCell wa ⟨X,3,none⟩ _ b (by show b≠X;omega)).trans (keep b o hb (fun e=>by have:=hcv b e;omega))
  have hw2s:w2.heap.size=w.heap.size+1:=by rw[←HW1.out];simp
  have hR2:w2.heap[w.heap.size]?=some (rdO (tyOf d) (.slice none 0 0) 0 false false):=by rw[←HW1.out];exact blkNew w _
  have hR3:=(HW3.out.2.block w.heap.size (by omega)).trans hR2
  have hch3:w3.heap[w2.heap.size]?=some (.chan win #[] false 0 0 false):=by
   rw[HW3.out.1,Below.heap_alloc _ _ _ (by simp)];exact blkNew w2.drew _
  have hC3:w3.heap[w2.heap.size+1]?=some (clO w.heap.size w2.heap.size (.slice none 0 0) (.pointer none) (.slice none 0 0)):=by
   rw[HW3.out.1];exact hs_new (by simp)
  have hk3:Chg (X::(Value.slice a cis.length c).ownBlock.toList) w (w3.alloc (.cells #[.pointer (some ⟨w2.heap.size+1,0,none⟩)] 116)):=Chg.of_below ((HB.out.trans (HW3.out.2.mono HB.out.size)).alloc (Nat.le_trans HB.out.size HW3.out.2.size) _)
  have hkf:Chg (X::(Value.slice a cis.length c).ownBlock.toList) w (wa.setCell ⟨X,3,none⟩ (.slice (some ⟨g2,0,none⟩) (cis.length+1) cap2)):=(hk3.grown HG.out.2.1 (fun b e=> .inl (by simp[e]))).set (.inl (by simp)) _
  have sz3:=HW3.out.2.size
  have hrowf:(wa.setCell ⟨X,3,none⟩ (.slice (some ⟨g2,0,none⟩) (cis.length+1) cap2)).ownsRow 0 116 1 (.slice (some ⟨g2,0,none⟩) (cis.length+1) cap2) (cis.length+1) (cis.map (fun v=>ptrV v.k.C)++[.pointer (some ⟨w2.heap.size+1,0,none⟩)]):=ownsRow_other HG.out.1 (fun gg hg=>by
   cases hg;refine Below.heap_setCell wa ⟨X,3,none⟩ _ g2 (fun e=>?_);obtain⟨cur,hc⟩:=ownsRow_blk HG.out.1 rfl;rw[show g2=X from e,hXa]at hc;unfold juO at hc;cases hc)
  have hfin:=HH.out.opened hn HD.out hkf hXf hrowf (by
   rcases HG.out.2.2.1 with e|e
   ·exact .inl e
   ·rw[World.size_alloc]at e;exact .inr (by omega)) (by omega) (Nat.le_refl _) (by omega) (keep2 _ _ hR3 (Nat.le_refl _)) (keep2 _ _ hch3 (by omega)) (keep2 _ _ hC3 (by omega))
  have HF:=hide' hfin
  have f3:=(juCells (cv:= .slice (some ⟨g2,0,none⟩) (cis.length+1) cap2) hXf).2.2.2.1
  have hlf:=blkLt hXf
  clear hfin hXf hcA hfA
  generalize wa.setCell ⟨X,3,none⟩ (.slice (some ⟨g2,0,none⟩) (cis.length+1) cap2)=wf at*
  clear hrowf hkf hk3 hC3 hch3 hR3 hR2 hw2s keep2 hcv hXa keep hX3
  go_wp2
  go_ret2
  exact⟨by simp,_,_,HF.out⟩
end Go.Proofs.YtlonjggfnleolaaGreatDoor
namespace Go.Proofs.YtlonjggfnleolaaGreatDoor
open Go.RowKit Go.Shelf
set_option linter.unusedVariables false
set_option maxHeartbeats 1000000
set_option maxRecDepth 100000
variable {o:Nat}{s:SrvQ}
section
variable {w:World}{X sv pt win:Nat}{cv rv:Value}{cis:List RCliV}{cs:List CliQ}{vs:List Nat}{ss:List SrvQ}
theorem rdownQ_no (h:RJunQ w X sv pt win cv rv cis cs vs ss)(k:Int)(hk:k<0∨(sv:Int)≤k):Calls Tryz.prog 117 #[.pointer (some ⟨X,0,none⟩),.int .i64 k] w fun e w'=>e= .returned (.int .i64 1)∧w'=w:=by
 obtain⟨a,c,rfl⟩:=row_form h.srow;have hb:=h.blk;unfold rjO at hb;have c4:=blkCell hb 4;simp at c4;rw[h.len]at c4;have hlt:=blkLt hb;have h4:=h.s4;clear h hb;by_cases h0:k<0
 ·go_enter Tryz.func117,Tryz.ntmps117;go_wp2;go_ret;exact⟨rfl,rfl⟩
 ·have h1:(sv:Int)≤k:=by omega
  go_enter Tryz.func117,Tryz.ntmps117;go_wp2;go_ret;exact⟨rfl,rfl⟩
theorem rdownQ_down (h:RJunQ w X sv pt win cv rv cis cs vs ss)(hs:ss[o]?=some s)(hup:s.up=false):Calls Tryz.prog 117 #[.pointer (some ⟨X,0,none⟩),.int .i64 (o:Int)] w fun e w'=>e= .returned (.int .i64 2)∧w'=w:=by
 obtain⟨S,g,c,hv,rfl,hgl,hg,hK⟩:=h.srvAt hs;have hi:=(List.getElem?_eq_some_iff.1 hv).1;have hb:=h.blk;unfold rjO at hb;have c4:=blkCell hb 4;simp at c4;have hlt:=blkLt hb;unfold rsO at hK;have k0:=blkCell hK 0;simp[hup]at k0;have hKl:=blkLt hK;have h4:=h.s4;have hll:=h.len;have h0:¬(o:Int)<0:=by omega
 have h1:¬(vs.length:Int)≤(o:Int):=by omega
 have h2:(o:Int)<(vs.length:Int):=by omega
 have h5:vs.length≤4:=by omega
 clear h hb hK hll;go_enter Tryz.func117,Tryz.ntmps117;go_wp2;go_ret;exact⟨rfl,rfl⟩
theorem rdownQ_up (h:RJunQ w X sv pt win cv rv cis cs vs ss)(hs:ss[o]?=some s)(hup:s.up=true){T:Nat}(hT:T+5000≤100000000000)(hbd:BdJ win T cs ss)(hd:DialQ cs):Calls Tryz.prog 117 #[.pointer (some ⟨X,0,none⟩),.int .i64 (o:Int)] w fun e w'=>e= .returned (.int .i64 0)∧∃cis',RRan w w' X sv pt win T cv rv cis.length (footRJ X cv cis vs) vs cis' (fallJ sv pt win o (cs,ss)):=by
 have HFl:=hide' (rfalls h hs hT hbd hd);obtain⟨S,g,c,hv,hrv,hgl,hg,hK⟩:=h.srvAt hs;have hi:=(List.getElem?_eq_some_iff.1 hv).1;have hb:=h.blk;unfold rjO at hb;have c4:=blkCell hb 4;simp at c4;rw[hrv]at c4;have hlt:=blkLt hb;unfold rsO at hK;have k0:=blkCell hK 0;simp[hup]at k0;have hKl:=blkLt hK;have h4:=h.s4;have hll:=h.len;have h0:¬(o:Int)<0:=by omega
 have h1:¬(vs.length:Int)≤(o:Int):=by omega
 have h2:(o:Int)<(vs.length:Int):=by omega
 have h5:vs.length≤4:=by omega
 clear h hb hK hll hbd hd hrv;go_enter Tryz.func117,Tryz.ntmps117;go_wp2_with fail
 go_at_call 152;refine HFl.out.mono ?_;rintro e w1 ⟨rfl,hf⟩;have HF:=hide' hf;clear hf;go_wp2;go_ret;exact⟨rfl,HF.out⟩
theorem ranswerQ_no (h:RJunQ w X sv pt win cv rv cis cs vs ss)(k:Int)(piece:ByteArray)(hk:k<0∨(sv:Int)≤k):Calls Tryz.prog 116 #[.pointer (some ⟨X,0,none⟩),.int .i64 k,.string piece] w fun e w'=>e= .returned (.int .i64 1)∧w'=w:=by
 obtain⟨a,c,rfl⟩:=row_form h.srow;have hb:=h.blk;unfold rjO at hb;have c4:=blkCell hb 4;simp at c4;rw[h.len]at c4;have hlt:=blkLt hb;have h4:=h.s4;clear h hb;by_cases h0:k<0
 ·go_enter Tryz.func116,Tryz.ntmps116;go_wp2;go_ret;exact⟨rfl,rfl⟩
 ·have h1:(sv:Int)≤k:=by omega
  go_enter Tryz.func116,Tryz.ntmps116;go_wp2;go_ret;exact⟨rfl,rfl⟩
theorem ranswerQ_down (h:RJunQ w X sv pt win cv rv cis cs vs ss)(hs:ss[o]?=some s)(piece:ByteArray)(hup:s.up=false):Calls Tryz.prog 116 #[.pointer (some ⟨X,0,none⟩),.int .i64 (o:Int),.string piece] w fun e w'=>e= .returned (.int .i64 2)∧w'=w:=by
 obtain⟨S,g,c,hv,rfl,hgl,hg,hK⟩:=h.srvAt hs;have hi:=(List.getElem?_eq_some_iff.1 hv).1;have hb:=h.blk;unfold rjO at hb;have c4:=blkCell hb 4;simp at c4;have hlt:=blkLt hb;unfold rsO at hK;have k0:=blkCell hK 0;simp[hup]at k0;have hKl:=blkLt hK;have h4:=h.s4;have hll:=h.len;have h0:¬(o:Int)<0:=by omega
 have h1:¬(vs.length:Int)≤(o:Int):=by omega
 have h2:(o:Int)<(vs.length:Int):=by omega
 have h5:vs.length≤4:=by omega
 clear h hb hK hll;go_enter Tryz.func116,Tryz.ntmps116;go_wp2;go_ret;exact⟨rfl,rfl⟩
end
variable {w w' w1 w2:World}{lo T:Nat}{d:JqI}{OB:Obj}{cis:List CliV}{vs:List SrvV}
def JqTo (w w':World)(lo:Nat)(d:JqI)(T:Nat)(OB:Obj):Prop:=
 ∃d',JqOk w' lo d'∧JqB T d'∧d'.D=d.D∧Chg d.foot w w'∧Later w d.foot d'.foot∧w'.heap[w.heap.size]?=some OB∧w'.heap[d.D]?=some (.cells #[ptrV d.X,ptrV d.Xr] 201 (0,0))
theorem JqTo.more {T':Nat}(h:JqTo w w' lo d T OB)(hT:T≤T'):JqTo w w' lo d T' OB:=by
 obtain⟨d',a1,a2,a3⟩:=h;exact⟨d',a1,a2.more hT,a3⟩
theorem JqTo.kept (h:JqTo w w' lo d T OB):w'.heap[d.D]?=some (.cells #[ptrV d.X,ptrV d.Xr] 201 (0,0))∧w'.heap[w.heap.size]?=some OB:=by
 obtain⟨d',_,_,_,_,_,a1,a2⟩:=h;exact⟨a2,a1⟩
theorem HalfQ.same {cv:Value}(h:HalfQ w w1 lo d OB cv cis d.cs vs d.ss)(h0:JqOk w lo d)(hB:JqB T d)(hlo:lo≤w.heap.size)(hb:Below w1.heap.size w1 w2):JqTo w w2 lo d T OB:=by
 obtain⟨a1,a2,a3,a4,a5⟩:=h.whole h0 hlo (h.ref.below hb) (Chg.of_below hb) (Later.refl _ _);exact⟨_,a1,⟨hB.bd,hB.held⟩,rfl,a2,a3,a4,a5⟩
theorem HalfQ.ran {n:Nat}{st:List CliQ×List SrvQ}{rcis:List RCliV}(h:HalfQ w w1 lo d OB d.cv cis st.1 vs st.2)(h0:JqOk w lo d)(hlo:lo≤w.heap.size)(hr:RRan w1.drew w2 d.Xr d.sv d.pt d.win T d.rcv d.rrv n d.footR d.rvs rcis st)(hH:HeldS T st.2):JqTo w w2 lo d T OB:=by
 obtain⟨a1,a2,a3,a4,a5⟩:=h.whole h0 hlo hr.jun ((Chg.of_below (below_drew w1)).trans hr.chg (Later.refl _ _)) hr.lat;exact⟨_,a1,⟨hr.bd,hH⟩,rfl,a2,a3,a4,a5⟩
theorem joinedQ9 (lo T:Nat)(d:JqI)(at' ck:Int)(kv:Value)(val cw:ByteArray)(ft:Bool)(cid ak:Int)(fv vv:Value)(wd:ByteArray)(g0 g1 g2:Int)(s:ByteArray)(x y:Int)(w:World)(h:JqOk w lo d)(hB:JqB T d)(hlo:lo≤w.heap.size):Calls Tryz.prog 71 #[ptrV d.D,Value.agg #[.int .i64 9,.int .i64 at',.int .i64 ck,kv,.string val,.string cw,.bool ft,.int .i64 cid,.int .i64 ak,fv,vv,.string wd,.int .i64 g0,.int .i64 g1,.int .i64 g2,.string s,.int .i64 x,.int .i64 y]] w fun e w'=>e= .returned (.bool true)∧JqTo w w' lo d T (opO 9 at' ck kv val cw ft cid ak fv vv wd g0 g1 g2 s x y):=by
 generalize hOB:opO 9 at' ck kv val cw ft cid ak fv vv wd g0 g1 g2 s x y=OB;have hb0:=below_ob w OB;have hO:=ob_there w OB;have hcl:=h.jun.cl;have hrl:=h.ref.cl;have hsl:=h.ref.sl;have hvl:=h.jun.len;have hrv:=h.ref.len;have hc4:=h.jun.c4;by_cases hx:(x<1∨3<x)∨d.cs.length=4
 ·refine joined_open d.D d.X d.Xr at' ck kv val cw ft cid ak fv vv wd g0 g1 g2 s x y w 0 1 OB (fun w1=>HalfQ w w1 lo d OB d.cv d.cis d.cs d.vs d.ss) (fun w2=>JqTo w w2 lo d T OB) hOB.symm h.blk ?_ ?_ (fun w1 h1=>⟨h1.blk,h1.ob⟩) (fun w2 h2=>h2.kept)
  ·refine(openQ_no (h.jun.below hb0) x (by rw[hcl];exact hx)).mono ?_;rintro e w1 ⟨rfl,hb⟩;exact⟨rfl,h.half hb0 hO ((h.jun.below hb0).below hb) (Chg.of_below hb) (Later.refl _ _)⟩
  ·intro w1 h1;refine(ropenQ_no (h1.ref.below (below_drew w1)) x (by rw[hrl];exact hx)).mono ?_;rintro e w2 ⟨rfl,rfl⟩;exact⟨rfl,(h1.same h hB hlo (below_drew w1))⟩
 ·have hx3:x=1∨x=2∨x=3:=by omega
  have hlt:d.cs.length<4:=by omega
  refine joined_open d.D d.X d.Xr at' ck kv val cw ft cid ak fv vv wd g0 g1 g2 s x y w (d.cs.length:Int) 0 OB (fun w1=>∃cv' v,HalfQ w w1 lo d OB cv' (d.cis++[v]) (d.cs++[newQ x]) d.vs d.ss) (fun w2=>JqTo w w2 lo d T OB) hOB.symm h.blk ?_ ?_ (fun w1 h1=>?_) (fun w2 h2=>h2.kept)
  ·refine(openQ_yes (h.jun.below hb0) x hx3 (by omega) h.jun.w6).mono ?_;rintro e w1 ⟨rfl,cv',v,h1,h2,h3⟩;exact⟨by rw[hcl],cv',v,h.half hb0 hO h1 h2 h3⟩
  ·rintro w1 ⟨cv',v,h1⟩;refine(ropenQ_yes (h1.ref.below (below_drew w1)) x hx3 (by omega)).mono ?_;rintro e w2 ⟨rfl,rcv',v',r1,r2,r3,r4,r5,r6⟩;refine⟨by rw[hrl],?_⟩;have k:Chg d.footR w1 w2:=((Chg.of_below (below_drew w1)).trans r2 (Later.refl _ _)).more (fun b hb=>by
    rcases List.mem_cons.1 hb with e|e
    ·exact mem_footRJ.2 (.inl e)
    ·exact mem_footRJ.2 (.inr (.inl (mem_own e))))
   have hq0:v'.ws=[]:=by
    obtain⟨s',hs',hc'⟩:=r1.get (i:=d.rcis.length) (v:=v') (by simp);have e0:(d.cs++[newQ x])[d.rcis.length]?=some (newQ x):=by rw[hrl];simp
    rw[e0]at hs';cases hs';exact List.length_eq_zero_iff.1 hc'.len
   have hft:∀b∈v'.foot,w1.heap.size≤b:=fun b e=>by
    unfold RCliV.foot at e;rw[r6,hq0]at e;simp[feetRQ]at e;rcases e with e|e
    ·rw[e];exact r4
    ·rw[e];exact r5
   have l:Later w1 d.footR (footRJ d.Xr rcv' (d.rcis++[v']) d.rvs):=fun b hb=>by
    rcases mem_footRJ.1 hb with e|e|⟨i,u,hu,e⟩|e
    ·exact .inl (mem_footRJ.2 (.inl e))
    ·rcases r3 with r3|⟨g,r3,hg⟩
     ·exact .inl (mem_footRJ.2 (.inr (.inl (r3.symm.trans e))))
     ·rw[r3]at e;cases e;exact .inr hg
    ·by_cases hi:i<d.rcis.length
     ·rw[List.getElem?_append_left hi]at hu;exact .inl (mem_footRJ.2 (.inr (.inr (.inl ⟨i,u,hu,e⟩))))
     ·rw[List.getElem?_append_right (by omega)]at hu;have hu2:=List.mem_of_getElem? hu;simp at hu2;subst hu2;exact .inr (hft b e)
    ·exact .inl (mem_footRJ.2 (.inr (.inr (.inr e))))
   obtain⟨a1,a2,a3,a4,a5⟩:=h1.whole h hlo r1 k l;refine⟨_,a1,⟨⟨fun s' hs'=>?_,fun s' hs'=>?_,fun u hu=>?_⟩,hB.held⟩,rfl,a2,a3,a4,a5⟩
   ·rcases List.mem_append.1 hs' with e|e
    ·exact hB.bd.told s' e
    ·simp at e;rw[e];exact Nat.zero_le _
   ·rcases List.mem_append.1 hs' with e|e
    ·exact hB.bd.wl s' e
    ·simp at e;rw[e];exact Nat.zero_le _
   ·have h3:=hB.bd.srv u hu;refine⟨h3.1,?_⟩;have e0:heldSum (d.cs++[newQ x])=heldSum d.cs:=by unfold heldSum;simp[newQ,st0]
    show u.sent.length+4000*heldSum (d.cs++[newQ x])≤T;rw[e0];exact h3.2
  ·obtain⟨cv',v,h1⟩:=h1;exact⟨h1.blk,h1.ob⟩
theorem joinedQ10 (lo T:Nat)(d:JqI)(at' ck:Int)(kv:Value)(val cw:ByteArray)(ft:Bool)(cid ak:Int)(fv vv:Value)(wd:ByteArray)(g0 g1 g2:Int)(s:ByteArray)(x y:Int)(w:World)(h:JqOk w lo d)(hB:JqB T d)(hlo:lo≤w.heap.size)(hT:T+4000*s.size+5000≤100000000000):Calls Tryz.prog 71 #[ptrV d.D,Value.agg #[.int .i64 10,.int .i64 at',.int .i64 ck,kv,.string val,.string cw,.bool ft,.int .i64 cid,.int .i64 ak,fv,vv,.string wd,.int .i64 g0,.int .i64 g1,.int .i64 g2,.string s,.int .i64 x,.int .i64 y]] w fun e w'=>e= .returned (.bool true)∧JqTo w w' lo d (T+4000*s.size) (opO 10 at' ck kv val cw ft cid ak fv vv wd g0 g1 g2 s x y):=by
 generalize hOB:opO 10 at' ck kv val cw ft cid ak fv vv wd g0 g1 g2 s x y=OB;have hb0:=below_ob w OB;have hO:=ob_there w OB;have hcl:=h.jun.cl;have hrl:=h.ref.cl;have hsl:=h.ref.sl;have hvl:=h.jun.len;have hrv:=h.ref.len;have hc4:=h.jun.c4;by_cases hx:x<0∨(d.cs.length:Int)≤x
 ·refine joined_say d.D d.X d.Xr at' ck kv val cw ft cid ak fv vv wd g0 g1 g2 s x y w 1 OB (fun w1=>HalfQ w w1 lo d OB d.cv d.cis d.cs d.vs d.ss) (fun w2=>JqTo w w2 lo d (T+4000*s.size) OB) hOB.symm h.blk ?_ ?_ (fun w1 h1=>⟨h1.blk,h1.ob⟩) (fun w2 h2=>h2.kept)
  ·refine(sayQ_no (h.jun.below hb0) x s (by rw[hcl];exact hx)).mono ?_;rintro e w1 ⟨rfl,rfl⟩;exact⟨rfl,h.half hb0 hO (h.jun.below hb0) (Chg.refl _ _) (Later.refl _ _)⟩
  ·intro w1 h1;refine(rsayQ_no (h1.ref.below (below_drew w1)) x s (by rw[hrl];exact hx)).mono ?_;rintro e w2 ⟨rfl,rfl⟩;exact⟨rfl,(h1.same h hB hlo (below_drew w1)).more (by omega)⟩
 ·obtain⟨i,s1,rfl,hs1⟩:=getNat hx;have hil:=(List.getElem?_eq_some_iff.1 hs1).1;obtain⟨v,hv⟩:∃v,d.cis[i]?=some v:=⟨_,List.getElem?_eq_getElem (by omega)⟩
  have htk:=takeS_len s1.st s.data.toList;rw[len_size]at htk;have ht1:=hB.bd.told s1 (List.mem_of_getElem? hs1);have hbd:BdJ d.win (T+4000*s.size) (d.cs.set i (tookQ s1 s.data.toList)) d.ss:=by
   refine⟨fun s' hs'=>?_,fun s' hs'=>?_,fun u hu=>?_⟩
   ·rcases List.mem_or_eq_of_mem_set hs' with e|e
    ·have:=hB.bd.told s' e;omega
    ·rw[e];show s1.told.length+1000*(s1.qs.length+(takeS s1.st s.data.toList).held.length)≤T+4000*s.size;omega
   ·rcases List.mem_or_eq_of_mem_set hs' with e|e
    ·exact hB.bd.wl s' e
    ·rw[e];exact hB.bd.wl s1 (List.mem_of_getElem? hs1)
   ·have h3:=hB.bd.srv u hu;refine⟨h3.1,?_⟩;have h4:=h3.2;rw[heldSum_at hs1]at h4;rw[heldSum_set hs1];show u.sent.length+4000*(heldSum (d.cs.take i)+((takeS s1.st s.data.toList).held.length+heldSum (d.cs.drop (i+1))))≤T+4000*s.size;omega
  refine joined_say d.D d.X d.Xr at' ck kv val cw ft cid ak fv vv wd g0 g1 g2 s (i:Int) y w 0 OB (fun w1=>∃cis' vs',HalfQ w w1 lo d OB d.cv cis' (saidJ d.sv d.pt d.win i s.data.toList (d.cs,d.ss)).1 vs' (saidJ d.sv d.pt d.win i s.data.toList (d.cs,d.ss)).2) (fun w2=>JqTo w w2 lo d (T+4000*s.size) OB) hOB.symm h.blk ?_ ?_ (fun w1 h1=>?_) (fun w2 h2=>h2.kept)
  ·refine(sayQ_yes (h.jun.below hb0) hv hs1 s hT hbd (by omega)).mono ?_;rintro e w1 ⟨rfl,cis',vs',h1,_,_,h3,h4⟩;exact⟨rfl,cis',vs',h.half hb0 hO h1 h3 h4⟩
  ·rintro w1 ⟨cis',vs',h1⟩;refine(rsayQ_yes (h1.ref.below (below_drew w1)) hs1 s hT hbd h.jun.dial (by omega)).mono ?_;rintro e w2 ⟨rfl,rcis',hr⟩;exact⟨rfl,h1.ran h hlo hr ((HeldS.said (st:=(d.cs,d.ss)) hB.held).more (by omega))⟩
  ·obtain⟨cis',vs',h1⟩:=h1;exact⟨h1.blk,h1.ob⟩
theorem joinedQ11 (lo T:Nat)(d:JqI)(at' ck:Int)(kv:Value)(val cw:ByteArray)(ft:Bool)(cid ak:Int)(fv vv:Value)(wd:ByteArray)(g0 g1 g2:Int)(s:ByteArray)(x y:Int)(w:World)(h:JqOk w lo d)(hB:JqB T d)(hlo:lo≤w.heap.size):Calls Tryz.prog 71 #[ptrV d.D,Value.agg #[.int .i64 11,.int .i64 at',.int .i64 ck,kv,.string val,.string cw,.bool ft,.int .i64 cid,.int .i64 ak,fv,vv,.string wd,.int .i64 g0,.int .i64 g1,.int .i64 g2,.string s,.int .i64 x,.int .i64 y]] w fun e w'=>e= .returned (.bool true)∧JqTo w w' lo d T (opO 11 at' ck kv val cw ft cid ak fv vv wd g0 g1 g2 s x y):=by
 generalize hOB:opO 11 at' ck kv val cw ft cid ak fv vv wd g0 g1 g2 s x y=OB;have hb0:=below_ob w OB;have hO:=ob_there w OB;have hcl:=h.jun.cl;have hrl:=h.ref.cl;have hsl:=h.ref.sl;have hvl:=h.jun.len;have hrv:=h.ref.len;have hc4:=h.jun.c4;by_cases hx:x<0∨(d.cs.length:Int)≤x
 ·refine joined_told d.D d.X d.Xr at' ck kv val cw ft cid ak fv vv wd g0 g1 g2 s x y w ⟨#[]⟩ 1 OB (fun w1=>HalfQ w w1 lo d OB d.cv d.cis d.cs d.vs d.ss) (fun w2=>JqTo w w2 lo d T OB) hOB.symm h.blk ?_ ?_ (fun w1 h1=>⟨h1.blk,h1.ob⟩) (fun w2 h2=>h2.kept)
  ·refine(toldQ_no (h.jun.below hb0) x (by rw[hcl];exact hx)).mono ?_;rintro e w1 ⟨rfl,rfl⟩;exact⟨rfl,h.half hb0 hO (h.jun.below hb0) (Chg.refl _ _) (Later.refl _ _)⟩
  ·intro w1 h1;refine(rtoldQ_no (h1.ref.below (below_drew w1)) x (by rw[hrl];exact hx)).mono ?_;rintro e w2 ⟨rfl,rfl⟩;exact⟨rfl,(h1.same h hB hlo (below_drew w1))⟩
 ·obtain⟨i,s1,rfl,hs1⟩:=getNat hx;have hil:=(List.getElem?_eq_some_iff.1 hs1).1;obtain⟨v,hv⟩:∃v,d.cis[i]?=some v:=⟨_,List.getElem?_eq_getElem (by omega)⟩
  obtain⟨rv,hrv⟩:∃v,d.rcis[i]?=some v:=⟨_,List.getElem?_eq_getElem (by omega)⟩
  refine joined_told d.D d.X d.Xr at' ck kv val cw ft cid ak fv vv wd g0 g1 g2 s (i:Int) y w (mkB s1.told) 0 OB (fun w1=>HalfQ w w1 lo d OB d.cv d.cis d.cs d.vs d.ss) (fun w2=>JqTo w w2 lo d T OB) hOB.symm h.blk ?_ ?_ (fun w1 h1=>⟨h1.blk,h1.ob⟩) (fun w2 h2=>h2.kept)
  ·refine(toldQ_yes (h.jun.below hb0) hv hs1).mono ?_;rintro e w1 ⟨rfl,h1,h2⟩;exact⟨rfl,h.half hb0 hO h1 h2 (Later.refl _ _)⟩
  ·intro w1 h1;refine(rtoldQ_yes (h1.ref.below (below_drew w1)) hrv hs1).mono ?_;rintro e w2 ⟨rfl,rfl⟩;exact⟨rfl,(h1.same h hB hlo (below_drew w1))⟩
theorem joinedQ12 (lo T:Nat)(d:JqI)(at' ck:Int)(kv:Value)(val cw:ByteArray)(ft:Bool)(cid ak:Int)(fv vv:Value)(wd:ByteArray)(g0 g1 g2:Int)(s:ByteArray)(x y:Int)(w:World)(h:JqOk w lo d)(hB:JqB T d)(hlo:lo≤w.heap.size):Calls Tryz.prog 71 #[ptrV d.D,Value.agg #[.int .i64 12,.int .i64 at',.int .i64 ck,kv,.string val,.string cw,.bool ft,.int .i64 cid,.int .i64 ak,fv,vv,.string wd,.int .i64 g0,.int .i64 g1,.int .i64 g2,.string s,.int .i64 x,.int .i64 y]] w fun e w'=>e= .returned (.bool true)∧JqTo w w' lo d T (opO 12 at' ck kv val cw ft cid ak fv vv wd g0 g1 g2 s x y):=by
 generalize hOB:opO 12 at' ck kv val cw ft cid ak fv vv wd g0 g1 g2 s x y=OB;have hb0:=below_ob w OB;have hO:=ob_there w OB;have hcl:=h.jun.cl;have hrl:=h.ref.cl;have hsl:=h.ref.sl;have hvl:=h.jun.len;have hrv:=h.ref.len;have hc4:=h.jun.c4;by_cases hx:x<0∨(d.ss.length:Int)≤x
 ·refine joined_sent d.D d.X d.Xr at' ck kv val cw ft cid ak fv vv wd g0 g1 g2 s x y w ⟨#[]⟩ 1 OB (fun w1=>HalfQ w w1 lo d OB d.cv d.cis d.cs d.vs d.ss) (fun w2=>JqTo w w2 lo d T OB) hOB.symm h.blk ?_ ?_ (fun w1 h1=>⟨h1.blk,h1.ob⟩) (fun w2 h2=>h2.kept)
  ·refine(sentQ_no (h.jun.below hb0) x (by rw[←hsl];exact hx)).mono ?_;rintro e w1 ⟨rfl,rfl⟩;exact⟨rfl,h.half hb0 hO (h.jun.below hb0) (Chg.refl _ _) (Later.refl _ _)⟩
  ·intro w1 h1;refine(rsentQ_no (h1.ref.below (below_drew w1)) x (by rw[←hsl];exact hx)).mono ?_;rintro e w2 ⟨rfl,rfl⟩;exact⟨rfl,(h1.same h hB hlo (below_drew w1))⟩
 ·obtain⟨i,s1,rfl,hs1⟩:=getNat hx;have hil:=(List.getElem?_eq_some_iff.1 hs1).1;obtain⟨v,hv⟩:∃v,d.vs[i]?=some v:=⟨_,List.getElem?_eq_getElem (by omega)⟩
  obtain⟨rv,hrv⟩:∃v,d.rvs[i]?=some v:=⟨_,List.getElem?_eq_getElem (by omega)⟩
  refine joined_sent d.D d.X d.Xr at' ck kv val cw ft cid ak fv vv wd g0 g1 g2 s (i:Int) y w (mkB s1.sent) 0 OB (fun w1=>HalfQ w w1 lo d OB d.cv d.cis d.cs d.vs d.ss) (fun w2=>JqTo w w2 lo d T OB) hOB.symm h.blk ?_ ?_ (fun w1 h1=>⟨h1.blk,h1.ob⟩) (fun w2 h2=>h2.kept)
  ·refine(sentQ_yes (h.jun.below hb0) hv hs1).mono ?_;rintro e w1 ⟨rfl,h1,h2⟩;exact⟨rfl,h.half hb0 hO h1 h2 (Later.refl _ _)⟩
  ·intro w1 h1;refine(rsentQ_yes (h1.ref.below (below_drew w1)) hrv hs1).mono ?_;rintro e w2 ⟨rfl,rfl⟩;exact⟨rfl,(h1.same h hB hlo (below_drew w1))⟩
theorem joinedQ13 (lo T:Nat)(d:JqI)(at' ck:Int)(kv:Value)(val cw:ByteArray)(ft:Bool)(cid ak:Int)(fv vv:Value)(wd:ByteArray)(g0 g1 g2:Int)(s:ByteArray)(x y:Int)(w:World)(h:JqOk w lo d)(hB:JqB T d)(hlo:lo≤w.heap.size)(hT:T+4000*s.size+5000≤100000000000):Calls Tryz.prog 71 #[ptrV d.D,Value.agg #[.int .i64 13,.int .i64 at',.int .i64 ck,kv,.string val,.string cw,.bool ft,.int .i64 cid,.int .i64 ak,fv,vv,.string wd,.int .i64 g0,.int .i64 g1,.int .i64 g2,.string s,.int .i64 x,.int .i64 y]] w fun e w'=>e= .returned (.bool true)∧JqTo w w' lo d (T+4000*s.size) (opO 13 at' ck kv val cw ft cid ak fv vv wd g0 g1 g2 s x y):=by
 generalize hOB:opO 13 at' ck kv val cw ft cid ak fv vv wd g0 g1 g2 s x y=OB;have hb0:=below_ob w OB;have hO:=ob_there w OB;have hcl:=h.jun.cl;have hrl:=h.ref.cl;have hsl:=h.ref.sl;have hvl:=h.jun.len;have hrv:=h.ref.len;have hc4:=h.jun.c4;by_cases hx:x<0∨(d.ss.length:Int)≤x
 ·refine joined_answer d.D d.X d.Xr at' ck kv val cw ft cid ak fv vv wd g0 g1 g2 s x y w 1 OB (fun w1=>HalfQ w w1 lo d OB d.cv d.cis d.cs d.vs d.ss) (fun w2=>JqTo w w2 lo d (T+4000*s.size) OB) hOB.symm h.blk ?_ ?_ (fun w1 h1=>⟨h1.blk,h1.ob⟩) (fun w2 h2=>h2.kept)
  ·refine(answer_no (h.jun.below hb0) x s (by rw[←hsl];exact hx)).mono ?_;rintro e w1 ⟨rfl,rfl⟩;exact⟨rfl,h.half hb0 hO (h.jun.below hb0) (Chg.refl _ _) (Later.refl _ _)⟩
  ·intro w1 h1;refine(ranswerQ_no (h1.ref.below (below_drew w1)) x s (by rw[←hsl];exact hx)).mono ?_;rintro e w2 ⟨rfl,rfl⟩;exact⟨rfl,(h1.same h hB hlo (below_drew w1)).more (by omega)⟩
 ·obtain⟨i,s1,rfl,hs1⟩:=getNat hx;have hh1:=hB.held s1 (List.mem_of_getElem? hs1);cases hup:s1.up with
  |false=>
   refine joined_answer d.D d.X d.Xr at' ck kv val cw ft cid ak fv vv wd g0 g1 g2 s (i:Int) y w 2 OB (fun w1=>HalfQ w w1 lo d OB d.cv d.cis d.cs d.vs d.ss) (fun w2=>JqTo w w2 lo d (T+4000*s.size) OB) hOB.symm h.blk ?_ ?_ (fun w1 h1=>⟨h1.blk,h1.ob⟩) (fun w2 h2=>h2.kept)
   ·refine(answer_down (h.jun.below hb0) hs1 s hup).mono ?_;rintro e w1 ⟨rfl,rfl⟩;exact⟨rfl,h.half hb0 hO (h.jun.below hb0) (Chg.refl _ _) (Later.refl _ _)⟩
   ·intro w1 h1;refine(ranswerQ_down (h1.ref.below (below_drew w1)) hs1 s hup).mono ?_;rintro e w2 ⟨rfl,rfl⟩;exact⟨rfl,(h1.same h hB hlo (below_drew w1)).more (by omega)⟩
  |true=>
   refine joined_answer d.D d.X d.Xr at' ck kv val cw ft cid ak fv vv wd g0 g1 g2 s (i:Int) y w 0 OB (fun w1=>∃cis' vs',HalfQ w w1 lo d OB d.cv cis' (answeredJ d.sv d.pt d.win i s.data.toList (d.cs,d.ss)).1 vs' (answeredJ d.sv d.pt d.win i s.data.toList (d.cs,d.ss)).2) (fun w2=>JqTo w w2 lo d (T+4000*s.size) OB) hOB.symm h.blk ?_ ?_ (fun w1 h1=>?_) (fun w2 h2=>h2.kept)
   ·refine(answer_up (h.jun.below hb0) hs1 s hup hT (hB.bd.more (by omega)) (by omega)).mono ?_;rintro e w1 ⟨rfl,cis',vs',h1,_,_,h3,h4⟩;exact⟨rfl,cis',vs',h.half hb0 hO h1 h3 h4⟩
   ·rintro w1 ⟨cis',vs',h1⟩;refine(ranswerQ_up (h1.ref.below (below_drew w1)) hs1 s hup hT (hB.bd.more (by omega)) h.jun.dial (by omega)).mono ?_;rintro e w2 ⟨rfl,rcis',hr⟩;have hH:=HeldS.answered (sv:=d.sv) (pt:=d.pt) (win:=d.win) (o:=i) (piece:=s.data.toList) (st:=(d.cs,d.ss)) hB.held;rw[len_size]at hH;exact⟨rfl,h1.ran h hlo hr (hH.more (by omega))⟩
   ·obtain⟨cis',vs',h1⟩:=h1;exact⟨h1.blk,h1.ob⟩
theorem joinedQ14 (lo T:Nat)(d:JqI)(at' ck:Int)(kv:Value)(val cw:ByteArray)(ft:Bool)(cid ak:Int)(fv vv:Value)(wd:ByteArray)(g0 g1 g2:Int)(s:ByteArray)(x y:Int)(w:World)(h:JqOk w lo d)(hB:JqB T d)(hlo:lo≤w.heap.size)(hT:T+5000≤100000000000):Calls Tryz.prog 71 #[ptrV d.D,Value.agg #[.int .i64 14,.int .i64 at',.int .i64 ck,kv,.string val,.string cw,.bool ft,.int .i64 cid,.int .i64 ak,fv,vv,.string wd,.int .i64 g0,.int .i64 g1,.int .i64 g2,.string s,.int .i64 x,.int .i64 y]] w fun e w'=>e= .returned (.bool true)∧JqTo w w' lo d T (opO 14 at' ck kv val cw ft cid ak fv vv wd g0 g1 g2 s x y):=by
 generalize hOB:opO 14 at' ck kv val cw ft cid ak fv vv wd g0 g1 g2 s x y=OB;have hb0:=below_ob w OB;have hO:=ob_there w OB;have hcl:=h.jun.cl;have hrl:=h.ref.cl;have hsl:=h.ref.sl;have hvl:=h.jun.len;have hrv:=h.ref.len;have hc4:=h.jun.c4;by_cases hx:x<0∨(d.ss.length:Int)≤x
 ·refine joined_down d.D d.X d.Xr at' ck kv val cw ft cid ak fv vv wd g0 g1 g2 s x y w 1 OB (fun w1=>HalfQ w w1 lo d OB d.cv d.cis d.cs d.vs d.ss) (fun w2=>JqTo w w2 lo d T OB) hOB.symm h.blk ?_ ?_ (fun w1 h1=>⟨h1.blk,h1.ob⟩) (fun w2 h2=>h2.kept)
  ·refine(down_no (h.jun.below hb0) x (by rw[←hsl];exact hx)).mono ?_;rintro e w1 ⟨rfl,rfl⟩;exact⟨rfl,h.half hb0 hO (h.jun.below hb0) (Chg.refl _ _) (Later.refl _ _)⟩
  ·intro w1 h1;refine(rdownQ_no (h1.ref.below (below_drew w1)) x (by rw[←hsl];exact hx)).mono ?_;rintro e w2 ⟨rfl,rfl⟩;exact⟨rfl,(h1.same h hB hlo (below_drew w1))⟩
 ·obtain⟨i,s1,rfl,hs1⟩:=getNat hx;have hh1:=hB.held s1 (List.mem_of_getElem? hs1);cases hup:s1.up with
  |false=>
   refine joined_down d.D d.X d.Xr at' ck kv val cw ft cid ak fv vv wd g0 g1 g2 s (i:Int) y w 2 OB (fun w1=>HalfQ w w1 lo d OB d.cv d.cis d.cs d.vs d.ss) (fun w2=>JqTo w w2 lo d T OB) hOB.symm h.blk ?_ ?_ (fun w1 h1=>⟨h1.blk,h1.ob⟩) (fun w2 h2=>h2.kept)
   ·refine(down_down (h.jun.below hb0) hs1 hup).mono ?_;rintro e w1 ⟨rfl,rfl⟩;exact⟨rfl,h.half hb0 hO (h.jun.below hb0) (Chg.refl _ _) (Later.refl _ _)⟩
   ·intro w1 h1;refine(rdownQ_down (h1.ref.below (below_drew w1)) hs1 hup).mono ?_;rintro e w2 ⟨rfl,rfl⟩;exact⟨rfl,(h1.same h hB hlo (below_drew w1))⟩
  |true=>
   refine joined_down d.D d.X d.Xr at' ck kv val cw ft cid ak fv vv wd g0 g1 g2 s (i:Int) y w 0 OB (fun w1=>∃cis' vs',HalfQ w w1 lo d OB d.cv cis' (fallJ d.sv d.pt d.win i (d.cs,d.ss)).1 vs' (fallJ d.sv d.pt d.win i (d.cs,d.ss)).2) (fun w2=>JqTo w w2 lo d T OB) hOB.symm h.blk ?_ ?_ (fun w1 h1=>?_) (fun w2 h2=>h2.kept)
   ·refine(down_up (h.jun.below hb0) hs1 hup hT hB.bd).mono ?_;rintro e w1 ⟨rfl,cis',vs',h1,_,_,h3,h4⟩;exact⟨rfl,cis',vs',h.half hb0 hO h1 h3 h4⟩
   ·rintro w1 ⟨cis',vs',h1⟩;refine(rdownQ_up (h1.ref.below (below_drew w1)) hs1 hup hT hB.bd h.jun.dial).mono ?_;rintro e w2 ⟨rfl,rcis',hr⟩;exact⟨rfl,h1.ran h hlo hr (HeldS.fall (st:=(d.cs,d.ss)) hB.held)⟩
   ·obtain⟨cis',vs',h1⟩:=h1;exact⟨h1.blk,h1.ob⟩
theorem joinedQ15 (lo T:Nat)(d:JqI)(at' ck:Int)(kv:Value)(val cw:ByteArray)(ft:Bool)(cid ak:Int)(fv vv:Value)(wd:ByteArray)(g0 g1 g2:Int)(s:ByteArray)(x y:Int)(w:World)(h:JqOk w lo d)(hB:JqB T d)(hlo:lo≤w.heap.size):Calls Tryz.prog 71 #[ptrV d.D,Value.agg #[.int .i64 15,.int .i64 at',.int .i64 ck,kv,.string val,.string cw,.bool ft,.int .i64 cid,.int .i64 ak,fv,vv,.string wd,.int .i64 g0,.int .i64 g1,.int .i64 g2,.string s,.int .i64 x,.int .i64 y]] w fun e w'=>e= .returned (.bool true)∧JqTo w w' lo d T (opO 15 at' ck kv val cw ft cid ak fv vv wd g0 g1 g2 s x y):=by
 generalize hOB:opO 15 at' ck kv val cw ft cid ak fv vv wd g0 g1 g2 s x y=OB;have hb0:=below_ob w OB;have hO:=ob_there w OB;have hcl:=h.jun.cl;have hrl:=h.ref.cl;have hsl:=h.ref.sl;have hvl:=h.jun.len;have hrv:=h.ref.len;have hc4:=h.jun.c4;by_cases hx:x<0∨(d.ss.length:Int)≤x
 ·refine joined_up d.D d.X d.Xr at' ck kv val cw ft cid ak fv vv wd g0 g1 g2 s x y w 1 OB (fun w1=>HalfQ w w1 lo d OB d.cv d.cis d.cs d.vs d.ss) (fun w2=>JqTo w w2 lo d T OB) hOB.symm h.blk ?_ ?_ (fun w1 h1=>⟨h1.blk,h1.ob⟩) (fun w2 h2=>h2.kept)
  ·refine(up_no (h.jun.below hb0) x (by rw[←hsl];exact hx)).mono ?_;rintro e w1 ⟨rfl,rfl⟩;exact⟨rfl,h.half hb0 hO (h.jun.below hb0) (Chg.refl _ _) (Later.refl _ _)⟩
  ·intro w1 h1;refine(rupQ_no (h1.ref.below (below_drew w1)) x (by rw[←hsl];exact hx)).mono ?_;rintro e w2 ⟨rfl,rfl⟩;exact⟨rfl,(h1.same h hB hlo (below_drew w1))⟩
 ·obtain⟨i,s1,rfl,hs1⟩:=getNat hx;have hh1:=hB.held s1 (List.mem_of_getElem? hs1);cases hup:s1.up with
  |true=>
   refine joined_up d.D d.X d.Xr at' ck kv val cw ft cid ak fv vv wd g0 g1 g2 s (i:Int) y w 3 OB (fun w1=>HalfQ w w1 lo d OB d.cv d.cis d.cs d.vs d.ss) (fun w2=>JqTo w w2 lo d T OB) hOB.symm h.blk ?_ ?_ (fun w1 h1=>⟨h1.blk,h1.ob⟩) (fun w2 h2=>h2.kept)
   ·refine(up_up (h.jun.below hb0) hs1 hup).mono ?_;rintro e w1 ⟨rfl,rfl⟩;exact⟨rfl,h.half hb0 hO (h.jun.below hb0) (Chg.refl _ _) (Later.refl _ _)⟩
   ·intro w1 h1;refine(rupQ_up (h1.ref.below (below_drew w1)) hs1 hup).mono ?_;rintro e w2 ⟨rfl,rfl⟩;exact⟨rfl,(h1.same h hB hlo (below_drew w1))⟩
  |false=>
   refine joined_up d.D d.X d.Xr at' ck kv val cw ft cid ak fv vv wd g0 g1 g2 s (i:Int) y w 0 OB (fun w1=>∃cis' vs',HalfQ w w1 lo d OB d.cv cis' ((d.cs,uppedJ i d.ss):List CliQ×List SrvQ).1 vs' ((d.cs,uppedJ i d.ss):List CliQ×List SrvQ).2) (fun w2=>JqTo w w2 lo d T OB) hOB.symm h.blk ?_ ?_ (fun w1 h1=>?_) (fun w2 h2=>h2.kept)
   ·refine(up_down (h.jun.below hb0) hs1 hup hB.bd).mono ?_;rintro e w1 ⟨rfl,cis',vs',h1,_,_,h3,h4⟩;exact⟨rfl,cis',vs',h.half hb0 hO h1 h3 h4⟩
   ·rintro w1 ⟨cis',vs',h1⟩;refine(rupQ_down (h1.ref.below (below_drew w1)) hs1 hup).mono ?_;rintro e w2 ⟨rfl,r1,r2⟩;obtain⟨a1,a2,a3,a4,a5⟩:=h1.whole h hlo r1 ((Chg.of_below (below_drew w1)).trans r2 (Later.refl _ _)) (Later.refl _ _);have hbu:BdJ d.win T d.cs (uppedJ i d.ss):=by
     have e:uppedJ i d.ss=d.ss.set i {s1 with up:=true}:=by unfold uppedJ;rw[hs1]
     rw[e];exact hB.bd.srvSet hs1 rfl rfl
    exact⟨rfl,_,a1,⟨hbu,HeldS.upped hB.held⟩,rfl,a2,a3,a4,a5⟩
   ·obtain⟨cis',vs',h1⟩:=h1;exact⟨h1.blk,h1.ob⟩
theorem joinedQ_law (k0:Int)(h9:9≤k0)(h15:k0≤15)(lo T:Nat)(d:JqI)(at' ck:Int)(kv:Value)(val cw:ByteArray)(ft:Bool)(cid ak:Int)(fv vv:Value)(wd:ByteArray)(g0 g1 g2:Int)(s:ByteArray)(x y:Int)(w:World)(h:JqOk w lo d)(hB:JqB T d)(hlo:lo≤w.heap.size)(hT:T+4000*s.size+5000≤100000000000):Calls Tryz.prog 71 #[ptrV d.D,Value.agg #[.int .i64 k0,.int .i64 at',.int .i64 ck,kv,.string val,.string cw,.bool ft,.int .i64 cid,.int .i64 ak,fv,vv,.string wd,.int .i64 g0,.int .i64 g1,.int .i64 g2,.string s,.int .i64 x,.int .i64 y]] w fun e w'=>e= .returned (.bool true)∧JqTo w w' lo d (T+4000*s.size) (opO k0 at' ck kv val cw ft cid ak fv vv wd g0 g1 g2 s x y):=by
 rcases(show k0=9∨k0=10∨k0=11∨k0=12∨k0=13∨k0=14∨k0=15 by omega)with rfl|rfl|rfl|rfl|rfl|rfl|rfl
 ·exact(joinedQ9 lo T d at' ck kv val cw ft cid ak fv vv wd g0 g1 g2 s x y w h hB hlo).mono (fun e w' hw=>⟨hw.1,hw.2.more (by omega)⟩)
 ·exact joinedQ10 lo T d at' ck kv val cw ft cid ak fv vv wd g0 g1 g2 s x y w h hB hlo hT
 ·exact(joinedQ11 lo T d at' ck kv val cw ft cid ak fv vv wd g0 g1 g2 s x y w h hB hlo).mono (fun e w' hw=>⟨hw.1,hw.2.more (by omega)⟩)
 ·exact(joinedQ12 lo T d at' ck kv val cw ft cid ak fv vv wd g0 g1 g2 s x y w h hB hlo).mono (fun e w' hw=>⟨hw.1,hw.2.more (by omega)⟩)
 ·exact joinedQ13 lo T d at' ck kv val cw ft cid ak fv vv wd g0 g1 g2 s x y w h hB hlo hT
 ·exact(joinedQ14 lo T d at' ck kv val cw ft cid ak fv vv wd g0 g1 g2 s x y w h hB hlo (by omega)).mono (fun e w' hw=>⟨hw.1,hw.2.more (by omega)⟩)
 ·exact(joinedQ15 lo T d at' ck kv val cw ft cid ak fv vv wd g0 g1 g2 s x y w h hB hlo).mono (fun e w' hw=>⟨hw.1,hw.2.more (by omega)⟩)
theorem RMakeAt.fresh {w0 W:World}{X sv pt win:Nat}{rv:Value}{vs:List Nat}(h:RMakeAt w0 W X sv pt win sv rv vs)(h1:1≤sv)(h4:sv≤4)(hp1:1≤pt)(hp:pt≤16)(hw:win≤6):RJunQ W X sv pt win (.slice none 0 0) rv [] [] vs (List.replicate sv ⟨true,0,[],[]⟩):=by
 have hr:=h.row;rw[←h.len]at hr;refine⟨h.blk,World.ownsRow_nil _ _ _ _,hr,h.len,List.length_replicate,h1,h4,hp1,hp,hw,rfl,Nat.zero_le _,fun i v s hv=>(by simp at hv),fun i j v u _ hv=>(by simp at hv),fun j S s hS hs=>?_,h.nd,fun s hs=>(by cases hs),fun s hs=>?_⟩
 ·have e:s=⟨true,0,[],[]⟩:=List.eq_of_mem_replicate (List.mem_of_getElem? hs);subst e;exact h.srv j S hS
 ·have e:s=⟨true,0,[],[]⟩:=List.eq_of_mem_replicate hs;subst e;show(0:Nat)<65536;omega
set_option maxHeartbeats 4000000
set_option maxRecDepth 20000
theorem jx_snoc {w W2 W5:World}{lo B T:Nat}{R:JwR}{jv jv':Value}{ds:List JqI}{A:Obj}(h:JxAt w lo B R jv ds T)(hlo:lo≤w.heap.size)(hb:Below w.heap.size w W2){X Xr sv pt win g sc:Nat}{rrv:Value}{vs:List SrvV}{rvs:List Nat}(hj:JunQ W2 X sv pt win g sc (.slice none 0 0) [] [] vs (List.replicate sv ⟨true,0,[],[]⟩))(hr:RJunQ W2 Xr sv pt win (.slice none 0 0) rrv [] [] rvs (List.replicate sv ⟨true,0,[],[]⟩))(fP:∀b∈footQ X (.slice none 0 0) [] vs,w.heap.size≤b)(fQ:∀b∈footRJ Xr (.slice none 0 0) [] rvs,w.heap.size≤b)(ap:∀b∈footQ X (.slice none 0 0) [] vs,b∉footRJ Xr (.slice none 0 0) [] rvs)(hrow:Row W5 lo 154 1 jv' (ds.length+1) ((ds.map fun d=>ptrV d.D)++[.pointer (some ⟨W2.heap.size,0,none⟩)]))(hg:((W2.alloc (.cells #[.pointer (some ⟨X,0,none⟩),.pointer (some ⟨Xr,0,none⟩)] 201)).alloc A).grownBy W5 jv.ownBlock):(∃d',JxAt (W5.setCell ⟨B,1,none⟩ jv') lo B R jv' (ds++[d']) T∧∀b∈d'.foot,w.heap.size≤b)∧Below lo w (W5.setCell ⟨B,1,none⟩ jv')∧Kept95 w (W5.setCell ⟨B,1,none⟩ jv')∧W5.heap[B]?=some (jwX R jv)∧(∀b,b<w.heap.size→b≠B→jv.ownBlock≠some b→(W5.setCell ⟨B,1,none⟩ jv').heap[b]?=w.heap[b]?):=by
 obtain⟨J,hJ⟩:∃J,J=Obj.cells #[.pointer (some ⟨X,0,none⟩),.pointer (some ⟨Xr,0,none⟩)] 201:=⟨_,rfl⟩
 rw[←hJ]at hg;have b24:Below W2.heap.size W2 ((W2.alloc J).alloc A):=((Below.refl _ _).alloc (Nat.le_refl _) _).alloc (by simp) _;have hB4:Below w.heap.size w ((W2.alloc J).alloc A):=hb.trans (b24.mono hb.size);have nD:((W2.alloc J).alloc A).heap[W2.heap.size]?=some (.cells #[.pointer (some ⟨X,0,none⟩),.pointer (some ⟨Xr,0,none⟩)] 201 (0,0)):=by
  have h1:((W2.alloc J).alloc A).heap[W2.heap.size]?=some J:=(Below.heap_alloc _ _ _ (by simp)).trans (blkNew W2 J);rw[h1,hJ]
 have h4:=h.below hB4;have hj4:=hj.below b24;have hr4:=hr.below b24;have sz2:=hb.size;have sz4:=hB4.size;generalize (W2.alloc J).alloc A=W4 at*;have hok':JqOk W4 lo ⟨W2.heap.size,X,Xr,sv,pt,win,g,sc,.slice none 0 0,[],vs,.slice none 0 0,rrv,[],rvs,[],List.replicate sv ⟨true,0,[],[]⟩⟩:=⟨nD,hj4,hr4,ap,fun b hb=>by
  rcases List.mem_append.1 hb with e|e
  ·exact Nat.le_trans hlo (fP b e)
  ·exact Nat.le_trans hlo (fQ b e)⟩
 have hB':JqB T ⟨W2.heap.size,X,Xr,sv,pt,win,g,sc,.slice none 0 0,[],vs,.slice none 0 0,rrv,[],rvs,[],List.replicate sv ⟨true,0,[],[]⟩⟩:=⟨⟨fun s hs=>(by cases hs),fun s hs=>(by cases hs),fun u hu=>by
  rw[List.mem_replicate]at hu;rw[hu.2];exact⟨by show(0:Nat)<65536;omega,Nat.zero_le _⟩⟩,fun u hu=>by
  rw[List.mem_replicate]at hu;rw[hu.2];exact Nat.zero_le _⟩
 have fN:∀b∈(JqI.mk W2.heap.size X Xr sv pt win g sc (.slice none 0 0) [] vs (.slice none 0 0) rrv [] rvs [] (List.replicate sv ⟨true,0,[],[]⟩)).foot,w.heap.size≤b:=fun b hb=>by
  rcases List.mem_append.1 hb with e|e
  ·exact fP b e
  ·exact fQ b e
 have hall:∀d∈ds++[JqI.mk W2.heap.size X Xr sv pt win g sc (.slice none 0 0) [] vs (.slice none 0 0) rrv [] rvs [] (List.replicate sv ⟨true,0,[],[]⟩)],JqOk W4 lo d∧JqB T d:=fun d hd=>by
  rcases List.mem_append.1 hd with e|e
  ·exact h4.all d e
  ·simp at e;rw[e];exact⟨hok',hB'⟩
 have eD:(JqI.mk W2.heap.size X Xr sv pt win g sc (.slice none 0 0) [] vs (.slice none 0 0) rrv [] rvs [] (List.replicate sv ⟨true,0,[],[]⟩)).D=W2.heap.size:=rfl;generalize (JqI.mk W2.heap.size X Xr sv pt win g sc (.slice none 0 0) [] vs (.slice none 0 0) rrv [] rvs [] (List.replicate sv ⟨true,0,[],[]⟩))=d' at*;have k5:∀(b:Nat) (Z:Array Value) (Ty:Nat),W4.heap[b]?=some (.cells Z Ty (0,0))→Ty≠154→W5.heap[b]?=some (.cells Z Ty (0,0)):=fun b Z Ty hb hT=>(hg.block b (blkLt hb) (row_ne h4.row hb hT)).trans hb
 have wB5:=k5 B _ 87 h4.wd (by decide);have ch:Chg (B::jv.ownBlock.toList) W4 (W5.setCell ⟨B,1,none⟩ jv'):=((Chg.refl _ W4).grown hg (fun b e=> .inl (by simp[e]))).set (.inl (by simp)) _;have kT:∀Ts:List Nat,87∉Ts→154∉Ts→KeepT Ts W4 (W5.setCell ⟨B,1,none⟩ jv'):=fun Ts h1 h2=>KeepT.chg ch (fun b Ty Z f hm hZ hT=>by
  rcases List.mem_cons.1 hm with e|e
  ·have hwd:=h4.wd;unfold jwX at hwd;rw[e,hwd]at hZ;simp at hZ;rw[←hZ.2.1]at hT;exact h1 hT
  ·obtain⟨Z',hZ',_⟩:=h4.row.blk (mem_own e);rw[hZ']at hZ;simp at hZ;rw[←hZ.2.1]at hT;exact h2 hT)
 refine⟨⟨d',⟨(blkSet (i:=1) wB5 _).trans rfl,h.ge,?_,fun d hd=>⟨(hall d hd).1.keep ch.size (fun b hb=>ch.block b ((hall d hd).1.old hb) (fun hm=>?_)) (kT _ (by decide) (by decide)),(hall d hd).2⟩,fun i j d1 d2 hij h1 h2 b hb1 hb2=>?_⟩,fN⟩,?_,fun b Z hZ=>?_,wB5,fun b hb hbB hbj=>(ch.block b (by omega) (fun hm=>?_)).trans (hB4.block b hb)⟩
 ·rw[List.length_append,List.map_append];rw[show List.map (fun d=>ptrV d.D) [d']=[.pointer (some ⟨W2.heap.size,0,none⟩)]from by simp[eD,ptrV]];exact hrow.other (fun g Z _ hZ _=>Below.heap_setCell _ _ _ _ (fun e=>by rw[show g=B from e,wB5]at hZ;cases hZ))
 ·rcases List.mem_cons.1 hm with e|e
  ·have hwd:=h4.wd;unfold jwX at hwd;rw[←e]at hwd;have:=(hall d hd).1.types hb hwd;revert this;decide
  ·obtain⟨Z',hZ',_⟩:=h4.row.blk (mem_own e);have:=(hall d hd).1.types hb hZ';revert this;decide
 ·have look:∀(a:Nat) (u:JqI),(ds++[d'])[a]?=some u→ds[a]?=some u∨(a=ds.length∧u=d'):=fun a u ha=>by
   by_cases hl:a<ds.length
   ·rw[List.getElem?_append_left hl]at ha;exact .inl ha
   ·have h2:=(List.getElem?_eq_some_iff.1 ha).1;simp at h2;rw[List.getElem?_append_right (by omega)]at ha;have:=List.mem_of_getElem? ha;simp at this;exact .inr ⟨by omega,this⟩
  have old:∀(j:Nat) (e:JqI),ds[j]?=some e→∀b∈e.foot,b<w.heap.size:=fun j e he b hb=>(h.all e (List.mem_of_getElem? he)).1.old hb
  rcases look i d1 h1 with e1|⟨e1,e1'⟩
  ·rcases look j d2 h2 with e2|⟨e2,e2'⟩
   ·exact h.ap i j d1 d2 hij e1 e2 b hb1 hb2
   ·subst e2';have:=old i d1 e1 b hb1;have:=fN b hb2;omega
  ·subst e1';rcases look j d2 h2 with e2|⟨e2,e2'⟩
   ·have:=old j d2 e2 b hb2;have:=fN b hb1;omega
   ·omega
 ·refine⟨ch.os.trans hB4.os,ch.tape.trans hB4.tape,ch.output.trans hB4.output,Nat.le_trans sz4 ch.size,fun b hb=>(ch.block b (by omega) (fun hm=>?_)).trans (hB4.block b (by omega))⟩;rcases List.mem_cons.1 hm with e|e
  ·have:=h.ge;omega
  ·obtain⟨Z',hZ',h6,_⟩:=h4.row.blk (mem_own e);omega
 ·have hZ4:=(hB4.block b (blkLt hZ)).trans hZ;exact((kT [95] (by decide) (by decide)) _ _ _ _ hZ4 (by simp)).trans hZ4
 ·rcases List.mem_cons.1 hm with e|e
  ·exact hbB e
  ·exact hbj (mem_own e)
theorem madeQ_yes (B lo T:Nat)(R:JwR)(jv:Value)(ds:List JqI)(sv pt win:Nat)(w:World)(h:JxAt w lo B R jv ds T)(hlo:lo≤w.heap.size)(hn:ds.length≤1000000000000)(hc:configB sv pt win=true):Calls Tryz.prog 70 #[.pointer (some ⟨B,0,none⟩),.agg #[.int .i64 (sv:Int),.int .i64 (pt:Int),.int .i64 (win:Int)]] w fun e w'=>e= .returned (.bool true)∧∃jv' d',JxAt w' lo B R jv' (ds++[d']) T∧Below lo w w'∧Kept95 w w'∧(∀b∈d'.foot,w.heap.size≤b)∧(∀b,b<w.heap.size→b≠B→jv.ownBlock≠some b→w'.heap[b]?=w.heap[b]?):=by
 have hc':=hc;simp only[configB,ringB,withinB,Bool.and_eq_true,decide_eq_true_eq]at hc';obtain⟨⟨⟨a1,a2⟩,a3,a4⟩,a5,a6⟩:=hc';have H1:=hide' (fun W=>new_yesF sv pt win W hc (by omega) (by omega) (by omega));have H2:=hide' (fun W=>rnew_yes sv pt win W hc);have HB:Hid (∀o W,Below (w.alloc o).heap.size (w.alloc o) W→Below w.heap.size w W):=fun o W h=>((Below.refl _ _).alloc (Nat.le_refl _) o).trans (h.mono (by simp))
 have HS:=hide' (fun(W2 W5:World) (jv':Value) (A:Obj) (X Xr g sc:Nat) (rrv:Value) (vs:List SrvV) (rvs:List Nat) hb hj hr fP fQ ap=>jx_snoc (W2:=W2) (W5:=W5) (jv':=jv') (A:=A) (X:=X) (Xr:=Xr) (sv:=sv) (pt:=pt) (win:=win) (g:=g) (sc:=sc) (rrv:=rrv) (vs:=vs) (rvs:=rvs) h hlo hb hj hr fP fQ ap);have HRow:Hid (∀W,Below w.heap.size w W→Row W lo 154 1 jv ds.length (ds.map fun d=>ptrV d.D)):=fun W hb=>(h.below hb).row
 have HWd:Hid (∀W,Below w.heap.size w W→W.heap[B]?=some (jwX R jv)):=fun W hb=>(h.below hb).wd
 have hBl:=blkLt h.wd;obtain⟨i154,hi1,hi2,hi3,hi4⟩:=info154;have HI:=hide' (And.intro hi1 (And.intro hi2 (And.intro hi3 hi4)));clear h hi1 hi2 hi3 hi4 hc;go_enter Tryz.func70,Tryz.ntmps70;go_wp2_with fail
 go_at_call 53;refine(H1.out _).mono ?_;rintro e w1 ⟨X,g,sc,vs0,rfl,hj0,hb1,hg1,hf0,hfr⟩;obtain⟨hj1,hfe⟩:=JunQ.fresh hj0 (by omega) hfr;have hf1:∀b∈footQ X (.slice none 0 0) [] (vs0.map svV),w.heap.size≤b:=fun b hb=>Nat.le_trans (by simp) (hf0 b (by
  unfold footQ at hb;unfold footJ;rw[hfe]at hb;exact hb))
 clear hf0 hfr hfe hj0;generalize vs0.map svV=vs at*;have p0:w1.cell? ⟨w.heap.size,0,none⟩=some (.int .i64 (sv:Int)):=(hb1.cell (p:=⟨w.heap.size,0,none⟩) (by simp)).trans (blkCell (blkNew w _) 0);have p1:w1.cell? ⟨w.heap.size,1,none⟩=some (.int .i64 (pt:Int)):=(hb1.cell (p:=⟨w.heap.size,1,none⟩) (by simp)).trans (blkCell (blkNew w _) 1);have p2:w1.cell? ⟨w.heap.size,2,none⟩=some (.int .i64 (win:Int)):=(hb1.cell (p:=⟨w.heap.size,2,none⟩) (by simp)).trans (blkCell (blkNew w _) 2);have hf1':=hf1;have HJ1:=hide' (And.intro hj1 (And.intro (HB.out _ _ hb1) hf1'));clear hj1 hb1 hg1 hf1 hf1' HB H1;go_wp2_with fail
 go_at_call 111;refine(H2.out _).mono ?_;rintro e w2 ⟨Xr,rrv,rvs,rfl,hm2,hr2⟩;have hb2:Below w.heap.size w w2:=HJ1.out.2.1.trans (hm2.bel.mono HJ1.out.2.1.size);have hsz1:=HJ1.out.2.1.size;have hsz2:=hb2.size;have fQ:∀b∈footRJ Xr (.slice none 0 0) [] rvs,w1.heap.size≤b:=fun b hb=>by
  rcases mem_footRJ.1 hb with e|e|⟨i,v,hv,_⟩|e
  ·rw[e];exact hm2.ge
  ·cases e
  ·simp at hv
  ·exact hm2.gs b e
 have hrq:=hm2.fresh (by omega) (by omega) (by omega) (by omega) (by omega);have hap:∀b∈footQ X (.slice none 0 0) [] vs,b∉footRJ Xr (.slice none 0 0) [] rvs:=fun b hb hq=>by
  have:=HJ1.out.1.old b hb;have:=fQ b hq;omega
 have HFin:Hid (∀(W5:World) (jv':Value) (A:Obj),Row W5 lo 154 1 jv' (ds.length+1) ((ds.map fun d=>ptrV d.D)++[.pointer (some ⟨w2.heap.size,0,none⟩)])→((w2.alloc (.cells #[.pointer (some ⟨X,0,none⟩),.pointer (some ⟨Xr,0,none⟩)] 201)).alloc A).grownBy W5 jv.ownBlock→(∃d',JxAt (W5.setCell ⟨B,1,none⟩ jv') lo B R jv' (ds++[d']) T∧∀b∈d'.foot,w.heap.size≤b)∧Below lo w (W5.setCell ⟨B,1,none⟩ jv')∧Kept95 w (W5.setCell ⟨B,1,none⟩ jv')∧W5.heap[B]?=some (jwX R jv)∧(∀b,b<w.heap.size→b≠B→jv.ownBlock≠some b→(W5.setCell ⟨B,1,none⟩ jv').heap[b]?=w.heap[b]?)):=fun W5 jv' A h1 h2=>HS.out w2 W5 jv' A X Xr g sc rrv vs rvs hb2 (HJ1.out.1.below hm2.bel) hrq HJ1.out.2.2 (fun b hb=>Nat.le_trans hsz1 (fQ b hb)) hap h1 h2
 have wB2:=HWd.out w2 hb2;unfold jwX at wB2;have c1:=blkCell wB2 1;have cf:=blkFree wB2;simp at c1;have hBl2:=blkLt wB2;have hrow:Hid (∀A,Row ((w2.alloc (.cells #[.pointer (some ⟨X,0,none⟩),.pointer (some ⟨Xr,0,none⟩)] 201)).alloc A) lo 154 1 jv ds.length (ds.map fun d=>ptrV d.D)):=fun A=>HRow.out _ ((hb2.alloc hb2.size _).alloc (Nat.le_trans hb2.size (by simp)) _)
 clear hm2 hr2 hrq hap fQ hb2 wB2 HS HJ1 H2 HRow HWd p0 p1 p2;generalize hdn:ds.length=dn at*;have HDN:=hide' hdn;clear hdn;have hBn1:¬B=w2.heap.size:=by omega
 have hBn2:¬B=w2.heap.size+1:=by omega
 have hBl3:B<w2.heap.size+1:=by omega
 go_wp2_with (first
  |(go_at_call 99;refine(lawnum _ _).mono ?_;rintro e w3 ⟨rfl,hw3⟩;have hw4:=hw3.symm;clear hw3;subst hw4)
  |(at_builtin;refine wpList_append_row _ rfl _ _ _ rfl lo 154 i154 (.pointer none) 1 8 Tryz.underlying83 HI.out.1 HI.out.2.1 HI.out.2.2.1 HI.out.2.2.2 rfl (by omega) jv dn (ds.map fun d=>ptrV d.D) rfl (by exact hrow.out _) ⟨w2.heap.size+1,0,none⟩ 1 1 [.pointer (some ⟨w2.heap.size,0,none⟩)] rfl rfl (World.news_of_block (hs_new (by simp))) (by simp[Value.oneCell']) (by omega) (by unfold maxLen;omega) (by omega) (by simp;omega) ?_;intro rv' w9 hrow9 hg hat hall;obtain⟨ua,uc,huf⟩:=hrow9.form;subst huf;have hfin:=HFin.out w9 _ _ hrow9 hg;have HF2:=hide' hfin;have wB9:=hfin.2.2.2.1;unfold jwX at wB9;clear c1 cf;have c1:=blkCell wB9 1;have cf:=blkFree wB9;simp at c1;have hBl9:=blkLt wB9;clear hrow9 hg hat hall hfin wB9)
  |fail)
 go_ret;obtain⟨⟨d',hd',hfr⟩,f2,f3,_,f5⟩:=HF2.out;exact⟨rfl,_,d',hd',f2,f3,hfr,f5⟩
set_option maxHeartbeats 2000000
set_option maxRecDepth 20000
variable {w w':World}{lo B k T k' T':Nat}
def Jx (w:World)(lo B k T:Nat):Prop:=∃jv ds,JxAt w lo B jwNil jv ds T∧ds.length≤k
theorem Jx.below (h:Jx w lo B k T)(hb:Below w.heap.size w w'):Jx w' lo B k T:=by
 obtain⟨jv,ds,h1,h2⟩:=h;exact⟨jv,ds,h1.below hb,h2⟩
theorem Jx.more (h:Jx w lo B k T)(hk:k≤k')(hT:T≤T'):Jx w lo B k' T':=by
 obtain⟨jv,ds,h1,h2⟩:=h;exact⟨jv,ds,h1.more hT,by omega⟩
def JxS (w w':World)(lo B k T:Nat):Prop:=Jx w' lo B k T∧Below lo w w'∧Kept95 w w'
theorem JxS.of_below (h:Jx w lo B k T)(hb:Below w.heap.size w w')(hlo:lo≤w.heap.size)(hk:k≤k')(hT:T≤T'):JxS w w' lo B k' T':=⟨(h.below hb).more hk hT,hb.mono hlo,Kept95.of_below hb⟩
theorem step_joins (k0:Int)(h8:8≤k0)(h12:k0≤15)(B lo k T:Nat)(at' ck:Int)(kv:Value)(val cw:ByteArray)(ft:Bool)(cid ak:Int)(fv vv:Value)(wd:ByteArray)(g0 g1 g2:Int)(s:ByteArray)(x y:Int)(w:World)(h:Jx w lo B k T)(hlo:lo≤w.heap.size)(hk:k≤1048600)(hT:T+4000*s.size+5000≤100000000000):Calls Tryz.prog 40 #[.pointer (some ⟨B,0,none⟩),Value.agg #[.int .i64 k0,.int .i64 at',.int .i64 ck,kv,.string val,.string cw,.bool ft,.int .i64 cid,.int .i64 ak,fv,vv,.string wd,.int .i64 g0,.int .i64 g1,.int .i64 g2,.string s,.int .i64 x,.int .i64 y]] w fun e w'=>e= .returned (.bool true)∧JxS w w' lo B (k+1) (T+4000*s.size):=by
 have hL:=h;obtain⟨jv,ds,h1,h2⟩:=h;have hb0:∀o,Below w.heap.size w (w.alloc o):=fun o=>(Below.refl _ _).alloc (Nat.le_refl _) o
 by_cases hk8:k0=8
 ·subst hk8;refine step_made _ at' ck kv val cw ft cid ak fv vv wd g0 g1 g2 s x y w _ ?_;cases hc:configB g0 g1 g2 with
  |false=>
   refine(made_no _ g0 g1 g2 _ hc).mono ?_;rintro e w' ⟨rfl,hb⟩;exact⟨rfl,JxS.of_below hL ((hb0 _).trans (hb.mono (hb0 _).size)) hlo (by omega) (by omega)⟩
  |true=>
   have hc':=hc;simp only[configB,ringB,withinB,Bool.and_eq_true,decide_eq_true_eq]at hc';obtain⟨n0,rfl⟩:∃n:Nat,g0=(n:Int):=⟨g0.toNat,by omega⟩
   obtain⟨n1,rfl⟩:∃n:Nat,g1=(n:Int):=⟨g1.toNat,by omega⟩
   obtain⟨n2,rfl⟩:∃n:Nat,g2=(n:Int):=⟨g2.toNat,by omega⟩
   refine(madeQ_yes B lo T jwNil jv ds n0 n1 n2 _ (h1.below (hb0 _)) (Nat.le_trans hlo (hb0 _).size) (by omega) hc).mono ?_;rintro e w' ⟨rfl,jv',d',hJ,hb,hK,_,_⟩;exact⟨rfl,⟨jv',ds++[d'],hJ.more (by omega),by simp;omega⟩,((hb0 _).mono hlo).trans hb,(Kept95.of_below (hb0 _)).trans hK⟩
 ·have h9:9≤k0:=by omega
  have cB:w.cell? ⟨B,1,none⟩=some jv:=blkCell h1.wd 1;by_cases hne:0<ds.length
  ·obtain⟨j,hj⟩:∃j,pickI at' ds.length=j:=⟨_,rfl⟩
   have hjl:j<ds.length:=by rw[←hj];exact pickI_lt at' hne
   obtain⟨d,hd⟩:∃d,ds[j]?=some d:=⟨_,List.getElem?_eq_getElem hjl⟩
   obtain⟨g,c,rfl,hgc,hcell⟩:=row_cell (j:=j) (u:=ptrV d.D) h1.row (by rw[List.getElem?_map,hd];rfl);obtain⟨hok,hB⟩:=h1.all d (List.mem_of_getElem? hd);have hb1:∀o,Below w.heap.size w (w.alloc o).drew:=fun o=>(hb0 o).drew
   refine(step_join k0 h9 (by omega) at' ck kv val cw ft cid ak fv vv wd g0 g1 g2 s x y w B g ds.length c (ptrV d.D) cB hne hgc (by omega) (by rw[hj];exact hcell)
    (fun w'=>JxS w w' lo B (k+1) (T+4000*s.size)∧w'.cell? ⟨B,1,none⟩=some (.slice (some ⟨g,0,none⟩) ds.length c)∧w'.cell? ⟨g,pickI at' ds.length,none⟩=some (ptrV d.D)∧w'.heap[w.heap.size]?=some (.cells #[.int .i64 k0,.int .i64 at',.int .i64 ck,kv,.string val,.string cw,.bool ft,.int .i64 cid,.int .i64 ak,fv,vv,.string wd,.int .i64 g0,.int .i64 g1,.int .i64 g2,.string s,.int .i64 x,.int .i64 y] 95 (0,0)))
    ((joinedQ_law k0 h9 h12 lo T d at' ck kv val cw ft cid ak fv vv wd g0 g1 g2 s x y _ (hok.below (hb1 _)) hB (Nat.le_trans hlo (hb1 _).size) hT).mono ?_)
    (fun w' hw'=>hw'.2)).mono (fun e w' hw'=>⟨hw'.1,hw'.2.1⟩)
   rintro e w' ⟨rfl,d',a1,a2,a3,a4,a5,a6,a7⟩;obtain⟨b1,b2,b3⟩:=(h1.below (hb1 _)).step (T':=T+4000*s.size) (by omega) (Nat.le_trans hlo (hb1 _).size) hd a4 a5 a3 a1 a2;refine⟨rfl,⟨⟨_,_,b1,by rw[List.length_set];omega⟩,((hb1 _).mono hlo).trans b2,(Kept95.of_below (hb1 _)).trans b3⟩,blkCell b1.wd 1,?_,b3 _ _ (blkNew w _)⟩;obtain⟨g',c',hv,_,hc2⟩:=row_cell (j:=j) (u:=ptrV d.D) b1.row (by rw[List.getElem?_map,List.getElem?_set];simp[hjl,a3]);rw[List.length_set]at hv;cases hv;rw[hj];exact hc2
  ·have h0:ds.length=0:=by omega
   obtain⟨a,c,hjv⟩:=h1.row.form;rw[hjv,h0]at cB;refine(step_nojoint k0 h9 (by omega) at' ck kv val cw ft cid ak fv vv wd g0 g1 g2 s x y w B c a cB).mono ?_;rintro e w' ⟨rfl,hb⟩;exact⟨rfl,JxS.of_below hL hb hlo (by omega) (by omega)⟩
theorem ends_joins (B lo T:Nat)(jv:Value)(ds:List JqI)(l h:Int)(hh:12≤h)(w:World)(hJ:JxAt w lo B jwNil jv ds T)(hlo:lo≤w.heap.size)(hn:ds.length≤1000000000000)(hT:T+5000≤100000000000):Calls Tryz.prog 41 #[.pointer (some ⟨B,0,none⟩),.int .i64 l,.int .i64 h] w fun e w'=>e= .returned (.bool true)∧Jx w' lo B ds.length T∧Below lo w w':=by
 have c0:w.cell? ⟨B,0,none⟩=some (.slice none 0 0):=blkCell hJ.wd 0;have HC:Hid (∀(wr:World) (ds':List JqI),JxAt wr lo B jwNil jv ds' T→wr.cell? ⟨B,0,none⟩=some (.slice none 0 0)∧wr.cell? ⟨B,1,none⟩=some jv∧B<wr.heap.size):=fun wr ds' h'=>⟨blkCell h'.wd 0,blkCell h'.wd 1,blkLt h'.wd⟩
 obtain⟨a,c,rfl⟩:=hJ.row.form;have HJd:Hid (∀(k0:Int),9≤k0→k0≤15→∀(n:Int) (wr:World) (ds':List JqI) (i:Nat) (d:JqI),JxAt wr lo B jwNil (.slice a ds.length c) ds' T→lo≤wr.heap.size→ds'[i]?=some d→ds'.length=ds.length→Calls Tryz.prog 71 #[ptrV d.D,Value.agg #[.int .i64 k0,.int .i64 0,.int .i64 0,.slice none 0 0,.string ⟨#[]⟩,.string ⟨#[]⟩,.bool false,.int .i64 0,.int .i64 0,.slice none 0 0,.slice none 0 0,.string ⟨#[]⟩,.int .i64 0,.int .i64 0,.int .i64 0,.string ⟨#[]⟩,.int .i64 n,.int .i64 0]] wr fun e w'=>e= .returned (.bool true)∧∃ds'',JxAt w' lo B jwNil (.slice a ds.length c) ds'' T∧ds''.length=ds.length∧Below lo wr w'):=fun k0 h9 h12 n wr ds' i d hW hl hd hlen=>by
  obtain⟨hok,hB⟩:=hW.all d (List.mem_of_getElem? hd);refine(joinedQ_law k0 h9 h12 lo T d 0 0 _ _ _ _ 0 0 _ _ _ 0 0 0 ⟨#[]⟩ n 0 wr hok hB hl (by show T+4000*0+5000≤_;omega)).mono ?_;rintro e w' ⟨rfl,d',a1,a2,a3,a4,a5,a6,a7⟩;obtain⟨b1,b2,b3⟩:=hW.step (T':=T) (Nat.le_refl _) hl hd a4 a5 a3 a1 a2;exact⟨rfl,_,b1,by rw[List.length_set];exact hlen,b2⟩
 have HRow:Hid (∀(wr:World) (ds':List JqI) (i:Nat) (d:JqI),JxAt wr lo B jwNil (.slice a ds.length c) ds' T→ds'[i]?=some d→ds'.length=ds.length→∃g c',Value.slice a ds.length c= .slice (some ⟨g,0,none⟩) ds.length c'∧ds.length≤c'∧g<wr.heap.size∧wr.cell? ⟨g,i,none⟩=some (.pointer (some ⟨d.D,0,none⟩))):=fun wr ds' i d hW hd hlen=>by
  have h1:=hW.row;rw[hlen]at h1;exact row_any h1 (by rw[List.getElem?_map,hd];rfl)
 have H0:=hide' hJ;clear hJ;generalize hdn:ds.length=n at*;have HDN:=hide' hdn;clear hdn;obtain⟨_,c1,hBl⟩:=HC.out w ds H0.out;unfold ptrV at HJd;go_enter Tryz.func41,Tryz.ntmps41;go_wp2;go_loop [7,8] (fun i _=>i= .int .i64 0) (fun _ _=>0)
 case atStart=>rfl
 case round=>
  subst hrel;go_wp2;clear c0 c1 hBl;go_loopw [9,10,11,12] (fun i _ _ _ wr=>∃(j:Nat) (ds':List JqI),i= .int .i64 (j:Int)∧j≤n∧Hid (JxAt wr lo B jwNil (.slice a n c) ds' T∧ds'.length=n∧Below lo w wr)) (fun i _ _ _ _=>n-(intOf i).toNat)
  case atStart=>exact⟨0,ds,rfl,Nat.zero_le _,H0.out,HDN.out,Below.refl _ _⟩
  case round=>
   obtain⟨j,ds',rfl,hj,HJ⟩:=hrel;obtain⟨c0,c1,hBl⟩:=HC.out wr ds' HJ.out.1;by_cases hlt:j<n
   ·have hlt':(j:Int)<(n:Int):=by omega
    go_wp2;clear c0 c1 hBl;go_loopw [10,11,12] (fun q _ _ w2=>∃(m:Int) (ds':List JqI),q= .int .i64 m∧ -1≤m∧m≤5∧Hid (JxAt w2 lo B jwNil (.slice a n c) ds' T∧ds'.length=n∧Below lo w w2)) (fun q _ _ _=>(5-intOf q).toNat)
    case atStart=>exact⟨-1,ds',rfl,by omega,by omega,HJ⟩
    case round=>
     obtain⟨m,dq,rfl,hm1,hm5,HQ⟩:=hrel;obtain⟨c0,c1,hBl⟩:=HC.out wr dq HQ.out.1;by_cases hm:m≤4
     ·obtain⟨d,hd⟩:∃d,dq[j]?=some d:=⟨_,List.getElem?_eq_getElem (by have:=HQ.out.2.1;omega)⟩
      obtain⟨g,c',hv,hgc,hgl,hcell⟩:=HRow.out wr dq j d HQ.out.1 hd HQ.out.2.1;cases hv;have HX:=hide' (HJd.out 11 (by omega) (by omega) m wr dq j d HQ.out.1 (Nat.le_trans hlo HQ.out.2.2.size) hd HQ.out.2.1);clear hd;go_wp2_with fail
      go_at_call 71;refine HX.out.mono ?_;rintro e w1 ⟨rfl,d1,hJ1,hl1,hb1⟩;have HQ1:Hid (JxAt w1 lo B jwNil (.slice (some ⟨g,0,none⟩) n c) d1 T∧d1.length=n∧Below lo w w1):=⟨hJ1,hl1,HQ.out.2.2.trans hb1⟩
      clear hJ1 hl1 hb1 HX c0 c1 hBl hcell hgl hgc;obtain⟨c0,c1,hBl⟩:=HC.out w1 d1 HQ1.out.1;obtain⟨d,hd⟩:∃d,d1[j]?=some d:=⟨_,List.getElem?_eq_getElem (by have:=HQ1.out.2.1;omega)⟩
      obtain⟨g',c'',hv,hgc,hgl,hcell⟩:=HRow.out w1 d1 j d HQ1.out.1 hd HQ1.out.2.1;cases hv;have HX:=hide' (HJd.out 12 (by omega) (by omega) m w1 d1 j d HQ1.out.1 (Nat.le_trans hlo HQ1.out.2.2.size) hd HQ1.out.2.1);clear hd;go_wp2_with fail
      go_at_call 71;refine HX.out.mono ?_;rintro e w2 ⟨rfl,d2,hJ2,hl2,hb2⟩;have HQ2:Hid (JxAt w2 lo B jwNil (.slice (some ⟨g,0,none⟩) n c) d2 T∧d2.length=n∧Below lo w w2):=⟨hJ2,hl2,HQ1.out.2.2.trans hb2⟩
      clear hJ2 hl2 hb2 HX c0 c1 hBl hcell hgl hgc;go_wp2;go_roundw;case rel=>exact⟨m+1,d2,by go_num,by omega,by omega,HQ2⟩
      case measure=>simp[intOf];omega
     ·go_wp2;go_roundw;case rel=>exact⟨j+1,dq,by go_num,by omega,HQ⟩
      case measure=>simp[intOf];omega
   ·have hlt':¬(j:Int)<(n:Int):=by omega
    go_wp2;go_ret;exact⟨rfl,⟨_,ds',HJ.out.1,by rw[HJ.out.2.1];exact Nat.le_refl _⟩,HJ.out.2.2⟩
theorem looks_joins (B lo T k:Nat)(w:World)(hJ:Jx w lo B k T):Calls Tryz.prog 42 #[.pointer (some ⟨B,0,none⟩)] w fun e w'=>e= .returned (.bool true)∧Below w.heap.size w w':=by
 obtain⟨jv,ds,h1,_⟩:=hJ;have c2:w.cell? ⟨B,2,none⟩=some (.slice none 0 0):=blkCell h1.wd 2;have c4:w.cell? ⟨B,4,none⟩=some (.slice none 0 0):=blkCell h1.wd 4;have hBl:=blkLt h1.wd;clear h1;go_enter Tryz.func42,Tryz.ntmps42;go_wp2;go_loop [3,4] (fun i _=>i= .int .i64 0) (fun _ _=>0)
 case atStart=>rfl
 case round=>
  subst hrel;go_wp2;go_loop [5,6,7] (fun i _ _=>i= .int .i64 0) (fun _ _ _=>0)
  case atStart=>rfl
  case round=>
   subst hrel;go_wp2;go_ret;exact⟨rfl,Below.refl _ _⟩
def gJ (j:Nat):Nat:=if j≤9 then 0 else 64000
theorem gJ_mono (j:Nat):gJ j≤gJ (j+1):=by
 unfold gJ;split<;>split<;>omega
theorem given_joins_step (b j:Nat)(h5:5≤j)(h9:j≤9):∃(k0 g0 g1 g2:Int) (s:ByteArray) (x:Int),givenCs b j=[.int .i64 k0,.int .i64 0,.int .i64 0,.slice none 0 0,.string ⟨#[]⟩,.string ⟨#[]⟩,.bool false,.int .i64 0,.int .i64 0,.slice none 0 0,.slice none 0 0,.string ⟨#[]⟩,.int .i64 g0,.int .i64 g1,.int .i64 g2,.string s,.int .i64 x,.int .i64 0]∧8≤k0∧k0≤15∧gJ j+4000*s.size=gJ (j+1):=by
 match j,h5,h9 with
 |5,_,_=>exact⟨8,3,5,2,⟨#[]⟩,0,rfl,by decide,by decide,rfl⟩
 |6,_,_=>exact⟨9,0,0,0,⟨#[]⟩,1,rfl,by decide,by decide,rfl⟩
 |7,_,_=>exact⟨9,0,0,0,⟨#[]⟩,2,rfl,by decide,by decide,rfl⟩
 |8,_,_=>exact⟨9,0,0,0,⟨#[]⟩,3,rfl,by decide,by decide,rfl⟩
 |9,_,_=>exact⟨10,0,0,0,⟨#[103,101,116,32,97,10,115,101,116,32,98,32,49,10,120,10]⟩,0,rfl,by decide,by decide,rfl⟩
theorem given_joins_in (j:Nat)(hj:j<10)(h1:8≤givenK.getD j 0):5≤j∧j≤9:=by
 match j,hj with
 |0,_=>exact absurd h1 (by decide)
 |1,_=>exact absurd h1 (by decide)
 |2,_=>exact absurd h1 (by decide)
 |3,_=>exact absurd h1 (by decide)
 |4,_=>exact absurd h1 (by decide)
 |5,_=>omega
 |6,_=>omega
 |7,_=>omega
 |8,_=>omega
 |9,_=>omega
theorem given_joins (B lo:Nat)(w:World)(hL:Jx w lo B 0 0)(hlo:lo≤w.heap.size):Calls Tryz.prog 39 #[.pointer (some ⟨B,0,none⟩),.int .i64 8,.int .i64 15] w fun e w'=>e= .returned (.bool true)∧Jx w' lo B 10 64000∧Below lo w w':=by
 refine given_gen _ 8 15 w (fun j W=>Jx W lo B j (gJ j)∧Below lo w W) ?_ ?_ ?_
 ·have hb:Below w.heap.size w ((w.alloc (.cells #[.string ⟨#[97]⟩] 9)).alloc (.cells (givenG w.heap.size) 95)):=((Below.refl _ _).alloc (Nat.le_refl _) _).alloc (by simp) _;exact⟨hL.below hb,hb.mono hlo⟩
 ·intro j hj h1 h2 W hI;obtain⟨hj1,hj4⟩:=given_joins_in j hj h1;obtain⟨k0,g0,g1,g2,s,x,e,hk4,hk5,hs⟩:=given_joins_step w.heap.size j hj1 hj4;rw[e];have hg:gJ (j+1)≤64000:=by unfold gJ;split<;>omega
  refine(step_joins k0 hk4 hk5 B lo j (gJ j) 0 0 (.slice none 0 0) ⟨#[]⟩ ⟨#[]⟩ false 0 0 (.slice none 0 0) (.slice none 0 0) ⟨#[]⟩ g0 g1 g2 s x 0 W hI.1 (Nat.le_trans hlo hI.2.size) (by omega) (by omega)).mono ?_;rintro e w' ⟨rfl,hL',hb',hk'⟩;rw[hs]at hL';exact⟨rfl,⟨hL',hI.2.trans hb'⟩,hk'⟩
 ·intro j hj hn W hI;exact⟨hI.1.more (by omega) (gJ_mono j),hI.2⟩
theorem Jx.start (w:World):Jx (w.alloc (.cells #[.slice none 0 0,.slice none 0 0,.slice none 0 0,.slice none 0 0,.slice none 0 0,.slice none 0 0,.int .i64 0] 87)) w.heap.size w.heap.size 0 0:=
 ⟨.slice none 0 0,[],⟨blkNew w _,Nat.le_refl _,Row.nil _ _ _ _,fun d hd=>(by cases hd),fun i j d e _ h=>(by cases h)⟩,Nat.le_refl _⟩
theorem ends_jx (B lo k T:Nat)(W:World)(hL:Jx W lo B k T)(hlo:lo≤W.heap.size)(hk:k≤1048600)(hT:T+5000≤100000000000):Calls Tryz.prog 41 #[.pointer (some ⟨B,0,none⟩),.int .i64 8,.int .i64 15] W fun e W'=>e= .returned (.bool true)∧Jx W' lo B k T∧Below lo W W':=by
 obtain⟨jv,ds,h1,h2⟩:=hL;refine(ends_joins B lo T jv ds 8 15 (by omega) W h1 hlo (by omega) hT).mono ?_;rintro e w' ⟨rfl,h3,hb⟩;exact⟨rfl,h3.more h2 (Nat.le_refl _),hb⟩
theorem plays_joins (b o N c:Nat)(kf:Nat→Int)(csf:Nat→List Value)(bk:Nat→Nat)(w:World)(hS:ScriptB w b o N kf csf bk)(hN:N≤c)(hN2:N≤1048576)(hbk:sumTo bk N≤1048576):Calls Tryz.prog 15 #[.slice (some ⟨b,o,none⟩) N c,.int .i64 8,.int .i64 15,.int .i64 0] w fun e w'=>e= .returned (.bool true)∧Below w.heap.size w w':=by
 have hb0:Below w.heap.size w (w.alloc (.cells #[.slice none 0 0,.slice none 0 0,.slice none 0 0,.slice none 0 0,.slice none 0 0,.slice none 0 0,.int .i64 0] 87)):=(Below.refl _ _).alloc (Nat.le_refl _) _;refine plays_gen b o N c 8 15 0 w kf csf (fun j W=>Jx W w.heap.size w.heap.size (10+j) (64000+4000*sumTo bk j)∧Below w.heap.size w W) (fun W=>Jx W w.heap.size w.heap.size (10+N) (64000+4000*sumTo bk N)∧Below w.heap.size w W) hS.lt hN (by omega) (fun j hj=>⟨(hS.ops j hj).1,(hS.ops j hj).2.1,(hS.ops j hj).2.2.1⟩) ?_ (fun j W h=>h.2) ?_ ?_ ?_ ?_
 ·refine(given_joins _ _ _ (Jx.start w) (by simp)).mono ?_;rintro e w' ⟨rfl,h1,h2⟩;exact⟨rfl,h1,hb0.trans h2⟩
 ·intro j hj hk4 hkh hkn W hI;obtain⟨hl,_,_,at',ck,a,n',c',ss,val,cw,ft,cid,ak,fa,va,fn,fc,vn,vc,bs,vs,wd,g0,g1,g2,s,x,y,hv,_⟩:=hS.ops j hj;obtain⟨s',hs',hsz⟩:=hS.sz j hj;have hss:s'=s:=by
   have hv':(csf j).toArray=#[.int .i64 (kf j),.int .i64 at',.int .i64 ck,.slice a n' c',.string val,.string cw,.bool ft,.int .i64 cid,.int .i64 ak,.slice fa fn fc,.slice va vn vc,.string wd,.int .i64 g0,.int .i64 g1,.int .i64 g2,.string s,.int .i64 x,.int .i64 y]:=by
    unfold opV at hv;exact Value.agg.inj hv
   have:(csf j).toArray[15]?=some (.string s):=by rw[hv'];rfl
   rw[List.getElem?_toArray,hs']at this;cases this;rfl
  subst hss;rw[hv];have hsum:sumTo bk (j+1)≤sumTo bk N:=sumTo_mono bk hj;have hsum2:sumTo bk (j+1)=sumTo bk j+bk j:=rfl;refine(step_joins (kf j) hk4 hkh w.heap.size w.heap.size (10+j) (64000+4000*sumTo bk j) at' ck _ val cw ft cid ak _ _ wd g0 g1 g2 s' x y W hI.1 hI.2.size (by omega) (by omega)).mono ?_;rintro e w' ⟨rfl,hL',hb',hk'⟩;exact⟨rfl,hL'.more (by omega) (by omega),hI.2.trans hb'⟩
 ·intro j hj _ W hI;have hsum2:sumTo bk (j+1)=sumTo bk j+bk j:=rfl;exact⟨hI.1.more (by omega) (by omega),hI.2⟩
 ·intro W hI;refine(ends_jx _ _ _ _ W hI.1 hI.2.size (by omega) (by omega)).mono ?_;rintro e w' ⟨rfl,hL',hb'⟩;exact⟨rfl,hL',hI.2.trans hb'⟩
 ·intro W hI;refine(looks_joins _ _ _ _ W hI.1).mono ?_;rintro e w' ⟨rfl,hb'⟩;exact⟨rfl,hI.2.trans (hb'.mono hI.2.size)⟩
theorem plays_joins_nil (w:World):Calls Tryz.prog 15 #[.slice none 0 0,.int .i64 8,.int .i64 15,.int .i64 0] w fun e w'=>e= .returned (.bool true)∧Below w.heap.size w w':=by
 have hb0:Below w.heap.size w (w.alloc (.cells #[.slice none 0 0,.slice none 0 0,.slice none 0 0,.slice none 0 0,.slice none 0 0,.slice none 0 0,.int .i64 0] 87)):=(Below.refl _ _).alloc (Nat.le_refl _) _;refine plays_gen_nil 8 15 0 w (fun W=>Jx W w.heap.size w.heap.size 10 64000∧Below w.heap.size w W) (fun W=>Jx W w.heap.size w.heap.size 10 64000∧Below w.heap.size w W) ?_ ?_ ?_
 ·refine(given_joins _ _ _ (Jx.start w) (by simp)).mono ?_;rintro e w' ⟨rfl,h1,h2⟩;exact⟨rfl,h1,hb0.trans h2⟩
 ·intro W hI;refine(ends_jx _ _ _ _ W hI.1 hI.2.size (by omega) (by omega)).mono ?_;rintro e w' ⟨rfl,hL',hb'⟩;exact⟨rfl,hL',hI.2.trans hb'⟩
 ·intro W hI;refine(looks_joins _ _ _ _ W hI.1).mono ?_;rintro e w' ⟨rfl,hb'⟩;exact⟨rfl,hI.2.trans (hb'.mono hI.2.size)⟩
theorem joins_some (b o N c:Nat)(kf:Nat→Int)(csf:Nat→List Value)(bk:Nat→Nat)(w:World)(hS:ScriptB w b o N kf csf bk)(hN:N≤c)(hN2:N≤1048576)(hbk:sumTo bk N≤1048576):Calls Tryz.prog 10 #[.slice (some ⟨b,o,none⟩) N c] w fun e w'=>e= .returned (.bool true)∧Below w.heap.size w w':=by
 have HP:=hide' (plays_joins b o N c kf csf bk w hS hN hN2 hbk);clear hS hbk;go_enter Tryz.func10,Tryz.ntmps10;go_wp2_with fail
 go_at_call 15;refine HP.out.mono ?_;rintro e w1 ⟨rfl,hb⟩;have HB:=hide' hb;clear hb;go_wp2;go_ret;exact⟨rfl,HB.out⟩
theorem joins_nil (w:World):Calls Tryz.prog 10 #[.slice none 0 0] w fun e w'=>e= .returned (.bool true)∧Below w.heap.size w w':=by
 have HP:=hide' (plays_joins_nil w);go_enter Tryz.func10,Tryz.ntmps10;go_wp2_with fail
 go_at_call 15;refine HP.out.mono ?_;rintro e w1 ⟨rfl,hb⟩;have HB:=hide' hb;clear hb;go_wp2;go_ret;exact⟨rfl,HB.out⟩
end Go.Proofs.YtlonjggfnleolaaGreatDoor
