import Derived.Test.YtlonjggfnleolaaGreatDoorSayB
import Derived.Test.YtlonjggfnleolaaGreatDoorRjM
import Derived.Test.YtlonjggfnleolaaGreatDoorLawK
import Derived.Deep.Slices
import Derived.SizedLaws
import Derived.ChangeArms
namespace Go.Proofs.YtlonjggfnleolaaGreatDoor
open Go.RowKit Go.Shelf
set_option linter.unusedVariables false
set_option maxHeartbeats 2000000
set_option maxRecDepth 20000
theorem made_no (p:Value)(sv pt win:Int)(w:World)(hc:configB sv pt win=false):Calls Tryz.prog 70 #[p,.agg #[.int .i64 sv,.int .i64 pt,.int .i64 win]] w fun e w'=>e= .returned (.bool true)∧Below w.heap.size w w':=by
 have H1:=hide' (fun W=>new_no sv pt win W hc);have H2:=hide' (fun W=>rnew_no sv pt win W hc);have HB:Hid (∀o W,Below (w.alloc o).heap.size (w.alloc o) W→Below w.heap.size w W):=fun o W h=>((Below.refl _ _).alloc (Nat.le_refl _) o).trans (h.mono (by simp))
 clear hc;go_enter Tryz.func70,Tryz.ntmps70;go_wp2_with fail
 go_at_call 53;refine(H1.out _).mono ?_;rintro e w1 ⟨rfl,hb1⟩;have p0:w1.cell? ⟨w.heap.size,0,none⟩=some (.int .i64 sv):=(hb1.cell (p:=⟨w.heap.size,0,none⟩) (by simp)).trans (blkCell (blkNew w _) 0);have p1:w1.cell? ⟨w.heap.size,1,none⟩=some (.int .i64 pt):=(hb1.cell (p:=⟨w.heap.size,1,none⟩) (by simp)).trans (blkCell (blkNew w _) 1);have p2:w1.cell? ⟨w.heap.size,2,none⟩=some (.int .i64 win):=(hb1.cell (p:=⟨w.heap.size,2,none⟩) (by simp)).trans (blkCell (blkNew w _) 2);have HB1:=hide' (HB.out _ _ hb1);clear hb1 HB;go_wp2_with fail
 go_at_call 111;refine(H2.out _).mono ?_;rintro e w2 ⟨rfl,hb2⟩;have HB2:=hide' (HB1.out.trans (hb2.mono HB1.out.size));clear hb2 p0 p1 p2;go_wp2_with (first|(go_at_call 99;refine(lawnum _ _).mono ?_;rintro e w3 ⟨rfl,hw3⟩;subst hw3)|fail)
 all_goals go_ret
 all_goals exact⟨rfl,HB2.out⟩
theorem info154:∃i,Tryz.prog.info? 154=some i∧i.zero=some (.pointer none)∧i.size=1∧i.bytes=8:=by
 have h:(Tryz.prog.info? 154).map (fun i=>(i.zero,i.size,i.bytes))=some (some (.pointer none),1,8):=by kernel_rfl
 obtain⟨i,hi,hz⟩:=Option.map_eq_some_iff.1 h;simp only[Prod.mk.injEq]at hz;exact⟨i,hi,hz.1,hz.2.1,hz.2.2⟩
def opO (k0 at' ck:Int)(kv:Value)(val cw:ByteArray)(ft:Bool)(cid ak:Int)(fv vv:Value)(wd:ByteArray)(g0 g1 g2:Int)(s:ByteArray)(x y:Int):Obj:= .cells #[.int .i64 k0,.int .i64 at',.int .i64 ck,kv,.string val,.string cw,.bool ft,.int .i64 cid,.int .i64 ak,fv,vv,.string wd,.int .i64 g0,.int .i64 g1,.int .i64 g2,.string s,.int .i64 x,.int .i64 y] 95
theorem below_drew (w:World):Below w.heap.size w w.drew:=(Below.refl _ _).drew
theorem below_ob (w:World)(OB:Obj):Below w.heap.size w (w.alloc OB).drew:=((Below.refl _ _).alloc (Nat.le_refl _) _).drew
theorem ob_there (w:World)(OB:Obj):(w.alloc OB).drew.heap[w.heap.size]?=some OB:=blkNew w OB
theorem getNat {α:Type}{l:List α}{x:Int}(h:¬(x<0∨(l.length:Int)≤x)):∃(i:Nat) (a:α),x=(i:Int)∧l[i]?=some a:=by
 have hi:x.toNat<l.length:=by omega
 exact⟨x.toNat,_,by omega,List.getElem?_eq_getElem hi⟩
theorem row_cell {w:World}{lo e n j:Nat}{v u:Value}{xs:List Value}(h:Row w lo e 1 v n xs)(hj:xs[j]?=some u):∃g c,v= .slice (some ⟨g,0,none⟩) n c∧n≤c∧w.cell? ⟨g,j,none⟩=some u:=by
 obtain⟨hl,⟨_,h0⟩|⟨g,cap,cur,hv,_,hg,hnc,_,ht⟩⟩:=h
 ·have:=(List.getElem?_eq_some_iff.1 hj).1;omega
 ·refine⟨g,cap,hv,hnc,(blkCell hg j).trans ?_⟩;have hlt:j<n*1:=by have:=(List.getElem?_eq_some_iff.1 hj).1;omega
  rw[←ht,List.getElem?_take_of_lt hlt]at hj;simpa using hj
theorem row_any {w:World}{lo e size n j:Nat}{v u:Value}{xs:List Value}(h:Row w lo e size v n xs)(hj:xs[j]?=some u):∃g c,v= .slice (some ⟨g,0,none⟩) n c∧n≤c∧g<w.heap.size∧w.cell? ⟨g,j,none⟩=some u:=by
 have hl:=h.1;have hlt:j<n*size:=by have:=(List.getElem?_eq_some_iff.1 hj).1;omega
 obtain⟨_,⟨_,h0⟩|⟨g,cap,cur,hv,_,hg,hnc,_,ht⟩⟩:=h
 ·rw[h0]at hlt;omega
 ·refine⟨g,cap,hv,hnc,blkLt hg,(blkCell hg j).trans ?_⟩;rw[←ht,List.getElem?_take_of_lt hlt]at hj;simpa using hj
def sumTo (f:Nat→Nat):Nat→Nat
 |0=>0
 |n+1=>sumTo f n+f n
theorem sumTo_mono (f:Nat→Nat):∀{a b:Nat},a≤b→sumTo f a≤sumTo f b:=by
 intro a b h;induction b with
 |zero=>rw[Nat.le_zero.1 h];exact Nat.le_refl _
 |succ b ih=>
  rcases Nat.lt_or_eq_of_le h with h|h
  ·have:=ih (by omega);show sumTo f a≤sumTo f b+f b;omega
  ·rw[h];exact Nat.le_refl _
structure ScriptB (w:World)(b o N:Nat)(kf:Nat→Int)(csf:Nat→List Value)(bk:Nat→Nat):Prop where
 lt:b<w.heap.size
 ops:∀j,j<N→(csf j).length=18∧w.cell? ⟨b,o+j*18,none⟩=some (.int .i64 (kf j))∧w.rangeAt b (o+j*18) (csf j)∧OpIn w (kf j) (.agg (csf j).toArray)
 sz:∀j,j<N→∃s:ByteArray,(csf j)[15]?=some (.string s)∧s.size≤bk j
set_option maxHeartbeats 4000000
set_option maxRecDepth 20000
theorem step_join (k:Int)(hk9:9≤k)(hk15:k≤15)(at' ck:Int)(kv:Value)(val cw:ByteArray)(ft:Bool)(cid ak:Int)(fv vv:Value)(wd:ByteArray)(g0 g1 g2:Int)(s:ByteArray)(x y:Int)(w:World)(B g rn rc:Nat)(Pj:Value)(cB:w.cell? ⟨B,1,none⟩=some (.slice (some ⟨g,0,none⟩) rn rc))(hrn:0<rn)(hcap:rn≤rc)(hrm:rn≤1000000000000)(hel:w.cell? ⟨g,pickI at' rn,none⟩=some Pj)(Post:World→Prop)(hRead:Calls Tryz.prog 71 #[Pj,Value.agg #[.int .i64 k,.int .i64 at',.int .i64 ck,kv,.string val,.string cw,.bool ft,.int .i64 cid,.int .i64 ak,fv,vv,.string wd,.int .i64 g0,.int .i64 g1,.int .i64 g2,.string s,.int .i64 x,.int .i64 y]] (w.alloc (.cells #[.int .i64 k,.int .i64 at',.int .i64 ck,kv,.string val,.string cw,.bool ft,.int .i64 cid,.int .i64 ak,fv,vv,.string wd,.int .i64 g0,.int .i64 g1,.int .i64 g2,.string s,.int .i64 x,.int .i64 y] 95)).drew fun e w'=>e= .returned (.bool true)∧Post w')(hPost:∀w',Post w'→w'.cell? ⟨B,1,none⟩=some (.slice (some ⟨g,0,none⟩) rn rc)∧w'.cell? ⟨g,pickI at' rn,none⟩=some Pj∧w'.heap[w.heap.size]?=some (.cells #[.int .i64 k,.int .i64 at',.int .i64 ck,kv,.string val,.string cw,.bool ft,.int .i64 cid,.int .i64 ak,fv,vv,.string wd,.int .i64 g0,.int .i64 g1,.int .i64 g2,.string s,.int .i64 x,.int .i64 y] 95 (0,0))):Calls Tryz.prog 40 #[.pointer (some ⟨B,0,none⟩),Value.agg #[.int .i64 k,.int .i64 at',.int .i64 ck,kv,.string val,.string cw,.bool ft,.int .i64 cid,.int .i64 ak,fv,vv,.string wd,.int .i64 g0,.int .i64 g1,.int .i64 g2,.string s,.int .i64 x,.int .i64 y]] w fun e w'=>e= .returned (.bool true)∧Post w':=by
 have HR:=hide' hRead;have HP:=hide' hPost;have hj:=pickI_lt at' hrn;have HPk:=hide' (fun W=>pick_law at' rn W);have hk1:¬k≤3:=by omega
 have hk1':1≤k:=by omega
 have hk4:¬k=4:=by omega
 have hk5:5≤k:=by omega
 have hk7:¬k≤7:=by omega
 have hk8:¬k=8:=by omega
 have hBl:B<w.heap.size:=World.block_lt_of_cell? w ⟨B,1,none⟩ cB;have hgl:g<w.heap.size:=World.block_lt_of_cell? w ⟨g,_,none⟩ hel;have hBn:¬B=w.heap.size:=by omega
 have hgn:¬g=w.heap.size:=by omega
 have hrn':(0:Int)<(rn:Int):=by omega
 generalize hpk:pickI at' rn=j at*;have HPK:=hide' hpk;clear hRead hPost hpk;go_enter Tryz.func40,Tryz.ntmps40;go_wp2_with fail
 have hj0:(0:Int)≤(j:Int):=by omega
 have hj1:(j:Int)<(rn:Int):=by omega
 obtain⟨CS,hCS⟩:∃CS:List Value,CS=[.int .i64 k,.int .i64 at',.int .i64 ck,kv,.string val,.string cw,.bool ft,.int .i64 cid,.int .i64 ak,fv,vv,.string wd,.int .i64 g0,.int .i64 g1,.int .i64 g2,.string s,.int .i64 x,.int .i64 y]:=⟨_,rfl⟩
 have HI:Hid ((Tryz.prog.info? 95).map (·.size)=some CS.length):=by rw[hCS];exact(show(Tryz.prog.info? 95).map (·.size)=some 18 by kernel_rfl)
 have HAg:=hide' (show Value.agg CS.toArray=Value.agg #[.int .i64 k,.int .i64 at',.int .i64 ck,kv,.string val,.string cw,.bool ft,.int .i64 cid,.int .i64 ak,fv,vv,.string wd,.int .i64 g0,.int .i64 g1,.int .i64 g2,.string s,.int .i64 x,.int .i64 y]by rw[hCS]);have HRg:Hid (∀W:World,W.heap[w.heap.size]?=some (.cells #[.int .i64 k,.int .i64 at',.int .i64 ck,kv,.string val,.string cw,.bool ft,.int .i64 cid,.int .i64 ak,fv,vv,.string wd,.int .i64 g0,.int .i64 g1,.int .i64 g2,.string s,.int .i64 x,.int .i64 y] 95 (0,0))→W.rangeAt w.heap.size 0 CS∧W.cell? ⟨w.heap.size,1,none⟩=some (.int .i64 at')):=fun W hW=>⟨by rw[hCS];intro m v hv;rw[Nat.zero_add];refine(blkCell hW m).trans ?_;rw[List.getElem?_toArray];exact hv,blkCell hW 1⟩
 have hx0:=HRg.out _ (blkNew w _);have cB0:=(Below.heap_alloc w (.cells #[.int .i64 k,.int .i64 at',.int .i64 ck,kv,.string val,.string cw,.bool ft,.int .i64 cid,.int .i64 ak,fv,vv,.string wd,.int .i64 g0,.int .i64 g1,.int .i64 g2,.string s,.int .i64 x,.int .i64 y] 95) B hBl)
 have cB1:=(World.cell?_of_block (a:=⟨B,1,none⟩) cB0).trans cB;have cg0:=(Below.heap_alloc w (.cells #[.int .i64 k,.int .i64 at',.int .i64 ck,kv,.string val,.string cw,.bool ft,.int .i64 cid,.int .i64 ak,fv,vv,.string wd,.int .i64 g0,.int .i64 g1,.int .i64 g2,.string s,.int .i64 x,.int .i64 y] 95) g hgl)
 have cg1:=(World.cell?_of_block (a:=⟨g,j,none⟩) cg0).trans hel;clear hCS cB0 cg0;generalize w.alloc (.cells #[.int .i64 k,.int .i64 at',.int .i64 ck,kv,.string val,.string cw,.bool ft,.int .i64 cid,.int .i64 ak,fv,vv,.string wd,.int .i64 g0,.int .i64 g1,.int .i64 g2,.string s,.int .i64 x,.int .i64 y] 95)=w0 at*;refine wp_region_held_drew (S:=fun W'=>W'.cell? ⟨B,1,none⟩=some (.slice (some ⟨g,0,none⟩) rn rc)∧W'.cell? ⟨w.heap.size,1,none⟩=some (.int .i64 at')∧W'.cell? ⟨g,j,none⟩=some Pj∧Hid (W'.rangeAt w.heap.size 0 CS)) (by kernel_rfl) ⟨cB1,hx0.2,cg1,hx0.1⟩ (fun hHeld=>?_);refine wpAnyH_take (i:=0) (oi:={dst:=some 83,op:=Op.move (Operand.tmp 0),type:=81,pos:= "law.go:326",after:=#[],guard:=none}) (v:=?_) rfl (by kernel_rfl) (by kernel_rfl) (by kernel_rfl) (fun _ _ _ h=>h) (Or.inl ⟨by rfl,?_⟩) (by assumption) ?_
 rotate_left 1
 ·(intro w hSw;(try dsimp only at hSw);obtain⟨sw0,sw1,sw2,sw3⟩:=hSw;go_simp;try with_reducible rfl)
 try simp only[Act.put,List.setIfInBounds_toArray,List.set_cons_zero,List.set_cons_succ]
 refine wpAnyH_take (i:=1) (oi:={dst:=some 84,op:=Op.nilCheck (Operand.tmp 83),type:=0,pos:= "law.go:326",after:=#[{on:=0,ground:=Ground.data}],guard:=none}) (v:=?_) rfl (by kernel_rfl) (by kernel_rfl) (by kernel_rfl) (fun _ _ _ h=>h) (Or.inl ⟨by rfl,?_⟩) (by assumption) ?_;rotate_left 1
 ·(intro w hSw;(try dsimp only at hSw);obtain⟨sw0,sw1,sw2,sw3⟩:=hSw;go_simp;try with_reducible rfl)
 try simp only[Act.put,List.setIfInBounds_toArray,List.set_cons_zero,List.set_cons_succ]
 refine wpAnyH_take (i:=2) (oi:={dst:=some 85,op:=Op.fieldAddr 87 (Operand.tmp 84) 1,type:=0,pos:= "law.go:326",after:=#[{on:=1,ground:=Ground.data}],guard:=none}) (v:=?_) rfl (by kernel_rfl) (by kernel_rfl) (by kernel_rfl) (fun _ _ _ h=>h) (Or.inl ⟨by rfl,?_⟩) (by assumption) ?_;rotate_left 1
 ·(intro w hSw;(try dsimp only at hSw);obtain⟨sw0,sw1,sw2,sw3⟩:=hSw;go_simp;try with_reducible rfl)
 try simp only[Act.put,List.setIfInBounds_toArray,List.set_cons_zero,List.set_cons_succ]
 refine wpAnyH_take (i:=3) (oi:={dst:=some 86,op:=Op.load 83 (Operand.tmp 85),type:=83,pos:= "law.go:326",after:=#[{on:=2,ground:=Ground.data}],guard:=none}) (v:=?_) rfl (by kernel_rfl) (by kernel_rfl) (by kernel_rfl) (fun _ _ _ h=>h) (Or.inl ⟨by rfl,?_⟩) (by assumption) ?_;rotate_left 1
 ·(intro w hSw;(try dsimp only at hSw);obtain⟨sw0,sw1,sw2,sw3⟩:=hSw;go_simp;try with_reducible rfl)
 try simp only[Act.put,List.setIfInBounds_toArray,List.set_cons_zero,List.set_cons_succ]
 refine wpAnyH_take (i:=4) (oi:={dst:=some 87,op:=Op.fieldAddr 95 (Operand.tmp 3) 1,type:=0,pos:= "law.go:326",after:=#[],guard:=none}) (v:=?_) rfl (by kernel_rfl) (by kernel_rfl) (by kernel_rfl) (fun _ _ _ h=>h) (Or.inl ⟨by rfl,?_⟩) (by assumption) ?_;rotate_left 1
 ·(intro w hSw;(try dsimp only at hSw);obtain⟨sw0,sw1,sw2,sw3⟩:=hSw;go_simp;try with_reducible rfl)
 try simp only[Act.put,List.setIfInBounds_toArray,List.set_cons_zero,List.set_cons_succ]
 refine wpAnyH_take (i:=5) (oi:={dst:=some 88,op:=Op.load 3 (Operand.tmp 87),type:=3,pos:= "law.go:326",after:=#[{on:=4,ground:=Ground.data}],guard:=none}) (v:=?_) rfl (by kernel_rfl) (by kernel_rfl) (by kernel_rfl) (fun _ _ _ h=>h) (Or.inl ⟨by rfl,?_⟩) (by assumption) ?_;rotate_left 1
 ·(intro w hSw;(try dsimp only at hSw);obtain⟨sw0,sw1,sw2,sw3⟩:=hSw;go_simp;try with_reducible rfl)
 try simp only[Act.put,List.setIfInBounds_toArray,List.set_cons_zero,List.set_cons_succ]
 refine wpAnyH_take (i:=6) (oi:={dst:=some 89,op:=Op.move (Operand.tmp 0),type:=81,pos:= "law.go:326",after:=#[],guard:=none}) (v:=?_) rfl (by kernel_rfl) (by kernel_rfl) (by kernel_rfl) (fun _ _ _ h=>h) (Or.inl ⟨by rfl,?_⟩) (by assumption) ?_;rotate_left 1
 ·(intro w hSw;(try dsimp only at hSw);obtain⟨sw0,sw1,sw2,sw3⟩:=hSw;go_simp;try with_reducible rfl)
 try simp only[Act.put,List.setIfInBounds_toArray,List.set_cons_zero,List.set_cons_succ]
 refine wpAnyH_take (i:=7) (oi:={dst:=some 90,op:=Op.nilCheck (Operand.tmp 89),type:=0,pos:= "law.go:326",after:=#[{on:=6,ground:=Ground.data}],guard:=none}) (v:=?_) rfl (by kernel_rfl) (by kernel_rfl) (by kernel_rfl) (fun _ _ _ h=>h) (Or.inl ⟨by rfl,?_⟩) (by assumption) ?_;rotate_left 1
 ·(intro w hSw;(try dsimp only at hSw);obtain⟨sw0,sw1,sw2,sw3⟩:=hSw;go_simp;try with_reducible rfl)
 try simp only[Act.put,List.setIfInBounds_toArray,List.set_cons_zero,List.set_cons_succ]
 refine wpAnyH_take (i:=8) (oi:={dst:=some 91,op:=Op.fieldAddr 87 (Operand.tmp 90) 1,type:=0,pos:= "law.go:326",after:=#[{on:=7,ground:=Ground.data}],guard:=none}) (v:=?_) rfl (by kernel_rfl) (by kernel_rfl) (by kernel_rfl) (fun _ _ _ h=>h) (Or.inl ⟨by rfl,?_⟩) (by assumption) ?_;rotate_left 1
 ·(intro w hSw;(try dsimp only at hSw);obtain⟨sw0,sw1,sw2,sw3⟩:=hSw;go_simp;try with_reducible rfl)
 try simp only[Act.put,List.setIfInBounds_toArray,List.set_cons_zero,List.set_cons_succ]
 refine wpAnyH_take (i:=9) (oi:={dst:=some 92,op:=Op.load 83 (Operand.tmp 91),type:=83,pos:= "law.go:326",after:=#[{on:=8,ground:=Ground.data}],guard:=none}) (v:=?_) rfl (by kernel_rfl) (by kernel_rfl) (by kernel_rfl) (fun _ _ _ h=>h) (Or.inl ⟨by rfl,?_⟩) (by assumption) ?_;rotate_left 1
 ·(intro w hSw;(try dsimp only at hSw);obtain⟨sw0,sw1,sw2,sw3⟩:=hSw;go_simp;try with_reducible rfl)
 try simp only[Act.put,List.setIfInBounds_toArray,List.set_cons_zero,List.set_cons_succ]
 refine wpAnyH_take (i:=10) (oi:={dst:=some 93,op:=Op.call {callee:=Callee.builtin Builtin.len,args:=#[Operand.tmp 92],argTypes:=#[83]},type:=3,pos:= "law.go:326",after:=#[{on:=9,ground:=Ground.data}],guard:=none}) (v:=?_) rfl (by kernel_rfl) (by kernel_rfl) (by kernel_rfl) (fun _ _ _ h=>h) (Or.inl ⟨by rfl,?_⟩) (by assumption) ?_;rotate_left 1
 ·(intro w hSw;(try dsimp only at hSw);obtain⟨sw0,sw1,sw2,sw3⟩:=hSw;go_simp;try with_reducible rfl)
 try simp only[Act.put,List.setIfInBounds_toArray,List.set_cons_zero,List.set_cons_succ]
 refine wpAnyH_take (i:=14) (oi:={dst:=some 97,op:=Op.load 95 (Operand.tmp 3),type:=95,pos:= "law.go:326",after:=#[],guard:=none}) (v:=_) rfl (by kernel_rfl) (by kernel_rfl) (by kernel_rfl) (fun _ _ _ h=>h) (yieldsIf_load_mid (by rfl) 95 _ rfl w.heap.size 0 rfl CS _ (fun w' hSw=>hSw.2.2.2.out) Tryz.underlying95 rfl HI.out) (by assumption) ?_;try simp only[Act.put,List.setIfInBounds_toArray,List.set_cons_zero,List.set_cons_succ]
 refine wpAnyH_ready (rs:=[11]) (by kernel_rfl) (by simp) ?_;refine AllReadyH.cons (o:={dst:=some 94,op:=Op.call {callee:=Callee.value (Operand.func 69),args:=#[Operand.tmp 88,Operand.tmp 93],argTypes:=#[3,3]},type:=3,pos:= "law.go:326",after:=#[{on:=5,ground:=Ground.data},{on:=10,ground:=Ground.data}],guard:=none}) rfl (fun K hK=>?_) AllReadyH.nil;go_simp;go_at_call 69;refine(HPk.out _).mono ?_;rintro e w' ⟨rfl,rfl⟩;go_wp2_with fail
 refine hK.out _ _ hHeld (fun hHeld2=>?_);clear hK K hHeld;have hHeld:=hHeld2;clear hHeld2;try simp only[Act.put,List.setIfInBounds_toArray,List.set_cons_zero,List.set_cons_succ]
 refine wpAnyH_take (i:=12) (oi:={dst:=some 95,op:=Op.indexAddr 83 (Operand.tmp 86) (Operand.tmp 94),type:=0,pos:= "law.go:326",after:=#[{on:=3,ground:=Ground.data},{on:=11,ground:=Ground.data}],guard:=none}) (v:=?_) rfl (by kernel_rfl) (by kernel_rfl) (by kernel_rfl) (fun _ _ _ h=>h) (Or.inl ⟨by rfl,?_⟩) (by assumption) ?_;rotate_left 1
 ·(intro w hSw;(try dsimp only at hSw);obtain⟨sw0,sw1,sw2,sw3⟩:=hSw;go_simp;try with_reducible rfl)
 try simp only[Act.put,List.setIfInBounds_toArray,List.set_cons_zero,List.set_cons_succ]
 refine wpAnyH_take (i:=13) (oi:={dst:=some 96,op:=Op.load 154 (Operand.tmp 95),type:=154,pos:= "law.go:326",after:=#[{on:=12,ground:=Ground.data}],guard:=none}) (v:=?_) rfl (by kernel_rfl) (by kernel_rfl) (by kernel_rfl) (fun _ _ _ h=>h) (Or.inl ⟨by rfl,?_⟩) (by assumption) ?_;rotate_left 1
 ·(intro w hSw;(try dsimp only at hSw);obtain⟨sw0,sw1,sw2,sw3⟩:=hSw;go_simp;try with_reducible rfl)
 try simp only[Act.put,List.setIfInBounds_toArray,List.set_cons_zero,List.set_cons_succ]
 refine wpAnyH_ready (rs:=[15]) (by kernel_rfl) (by simp) ?_;refine AllReadyH.cons (o:={dst:=some 98,op:=Op.call {callee:=Callee.value (Operand.func 71),args:=#[Operand.tmp 96,Operand.tmp 97],argTypes:=#[154,95]},type:=4,pos:= "law.go:326",after:=#[{on:=13,ground:=Ground.data},{on:=14,ground:=Ground.data},{on:=11,ground:=Ground.chain}],guard:=none}) rfl (fun K hK=>?_) AllReadyH.nil;go_simp;rw[HAg.out];go_at_call 71;refine HR.out.mono ?_;rintro e w1 ⟨rfl,hp⟩;have hq:=HP.out w1 hp;have HPo:=hide' hp;clear hp;go_wp2_with fail
 refine hK.out _ _ ⟨hq.1,(HRg.out _ hq.2.2).2,hq.2.1,(HRg.out _ hq.2.2).1⟩ (fun hHeld2=>?_);clear hK K hHeld;have hHeld:=hHeld2;clear hHeld2;try simp only[Act.put,List.setIfInBounds_toArray,List.set_cons_zero,List.set_cons_succ]
 refine wpAnyH_ready (rs:=[16]) (by kernel_rfl) (by simp) ?_;refine AllReadyH.cons (o:={dst:=some 4,op:=Op.assign (Operand.tmp 98),type:=4,pos:= "law.go:326",after:=#[{on:=15,ground:=Ground.data},{on:=15,ground:=Ground.chain},{on:=0,ground:=Ground.phase},{on:=1,ground:=Ground.phase},{on:=2,ground:=Ground.phase},{on:=3,ground:=Ground.phase},{on:=4,ground:=Ground.phase},{on:=5,ground:=Ground.phase},{on:=6,ground:=Ground.phase},{on:=7,ground:=Ground.phase},{on:=8,ground:=Ground.phase},{on:=9,ground:=Ground.phase},{on:=10,ground:=Ground.phase},{on:=11,ground:=Ground.phase},{on:=12,ground:=Ground.phase},{on:=13,ground:=Ground.phase},{on:=14,ground:=Ground.phase},{on:=15,ground:=Ground.phase}],guard:=none}) rfl (fun K hK=>?_) AllReadyH.nil
 go_simp;refine hK.out _ _ hHeld (fun hHeld2=>?_);clear hK K hHeld;have hHeld:=hHeld2;clear hHeld2;try simp only[Act.put,List.setIfInBounds_toArray,List.set_cons_zero,List.set_cons_succ]
 refine wpAnyH_done (by kernel_rfl) ?_ _;go_wp2;go_ret;exact⟨rfl,HPo.out⟩
set_option maxHeartbeats 1000000
set_option maxRecDepth 20000
theorem step_made (p:Value)(at' ck:Int)(kv:Value)(val cw:ByteArray)(ft:Bool)(cid ak:Int)(fv vv:Value)(wd:ByteArray)(g0 g1 g2:Int)(s:ByteArray)(x y:Int)(w:World)(Post:World→Prop)(hMd:Calls Tryz.prog 70 #[p,.agg #[.int .i64 g0,.int .i64 g1,.int .i64 g2]] (w.alloc (.cells #[.int .i64 8,.int .i64 at',.int .i64 ck,kv,.string val,.string cw,.bool ft,.int .i64 cid,.int .i64 ak,fv,vv,.string wd,.int .i64 g0,.int .i64 g1,.int .i64 g2,.string s,.int .i64 x,.int .i64 y] 95)) fun e w'=>e= .returned (.bool true)∧Post w'):Calls Tryz.prog 40 #[p,Value.agg #[.int .i64 8,.int .i64 at',.int .i64 ck,kv,.string val,.string cw,.bool ft,.int .i64 cid,.int .i64 ak,fv,vv,.string wd,.int .i64 g0,.int .i64 g1,.int .i64 g2,.string s,.int .i64 x,.int .i64 y]] w fun e w'=>e= .returned (.bool true)∧Post w':=by
 have HR:=hide' hMd;clear hMd;go_enter Tryz.func40,Tryz.ntmps40;go_wp2_with fail
 go_at_call 70;refine HR.out.mono ?_;rintro e w1 ⟨rfl,hp⟩;have HP:=hide' hp;clear hp;go_wp2;go_ret;exact⟨rfl,HP.out⟩
theorem step_nojoint (k:Int)(hk9:9≤k)(hk15:k≤15)(at' ck:Int)(kv:Value)(val cw:ByteArray)(ft:Bool)(cid ak:Int)(fv vv:Value)(wd:ByteArray)(g0 g1 g2:Int)(s:ByteArray)(x y:Int)(w:World)(B c:Nat)(a:Option Addr)(cB:w.cell? ⟨B,1,none⟩=some (.slice a 0 c)):Calls Tryz.prog 40 #[.pointer (some ⟨B,0,none⟩),Value.agg #[.int .i64 k,.int .i64 at',.int .i64 ck,kv,.string val,.string cw,.bool ft,.int .i64 cid,.int .i64 ak,fv,vv,.string wd,.int .i64 g0,.int .i64 g1,.int .i64 g2,.string s,.int .i64 x,.int .i64 y]] w fun e w'=>e= .returned (.bool true)∧Below w.heap.size w w':=by
 have HB:Hid (∀o,Below w.heap.size w (w.alloc o)):=fun o=>(Below.refl _ _).alloc (Nat.le_refl _) o
 have hk1:¬k≤3:=by omega
 have hk1':1≤k:=by omega
 have hk4:¬k=4:=by omega
 have hk5:5≤k:=by omega
 have hk7:¬k≤7:=by omega
 have hk8:¬k=8:=by omega
 have hBl:B<w.heap.size:=World.block_lt_of_cell? w ⟨B,1,none⟩ cB;have hBn:¬B=w.heap.size:=by omega
 go_enter Tryz.func40,Tryz.ntmps40;go_wp2;go_ret;exact⟨rfl,HB.out _⟩
end Go.Proofs.YtlonjggfnleolaaGreatDoor
namespace Go.Proofs.YtlonjggfnleolaaGreatDoor
open Go.RowKit Go.Deep
set_option linter.unusedVariables false
set_option maxRecDepth 20000
variable {w:World}{a:Addr}{v:Value}{fuel n:Nat}{cs:List Value}
theorem cell_addr (h:w.cell? a=some v):a=⟨a.block,a.off,none⟩∧a.block<w.heap.size:=by
 unfold World.cell? at h;split at h
 ·rename_i c t f hb;split at h
  ·cases h
  ·rename_i hs;have hs':a.spot=none:=by simpa using hs
   refine⟨?_,(Array.getElem?_eq_some_iff.1 hb).1⟩;cases a;simp at hs';subst hs';rfl
 ·cases h
theorem add_plain (b o i:Nat):(⟨b,o,none⟩:Addr).add i=⟨b,o+i,none⟩:=by
 unfold Addr.add;split
 ·subst_vars;rfl
 ·rfl
def strOf':Value→ByteArray
 | .string s=>s
 |_=>⟨#[]⟩
def boolOf':Value→Bool
 | .bool s=>s
 |_=>false
section
variable {H:Type}{enc:TypeId×Value→H}{W:World}
theorem strs_open {x:DataW H×List MemPlace}(h:DataW.trod enc Tryz.prog W 0 (fun _=>true) true fuel 34 [v]=some x)(hw:∀k∈DataW.weights Tryz.prog 34 x.1,k≤reachBytes):∃a n c ss,v= .slice a n c∧StrsIn W a n c ss∧n≤8796093022208:=by
 rcases open_slice1 Tryz.underlying34 (by kernel_rfl) h with⟨hcs,hx⟩|⟨a,len,cap,m,n,V,D,Pl,hcs,hb,hl,hm,hmm,hx,hel⟩
 ·simp at hcs;subst hcs;exact⟨none,0,0,[],rfl,⟨rfl,Nat.le_refl _,by simp,by simp,.inr ⟨rfl,rfl⟩⟩,by omega⟩
 ·simp at hcs hmm;subst hcs;subst hmm;have hwt:m*16≤140737488351232:=by
   have e:Tryz.prog.bytesOf 9=16:=by kernel_rfl
   have:=hw ((len+(m-len))*16) (by rw[hx];simp[DataW.weights,Tryz.underlying34,e]);unfold reachBytes at this;omega
  have each:∀i,i<m→∃s:ByteArray,V i= .string s∧s.size≤maxLen∧W.cell? (a.add i)=some (.string s):=fun i hi=>by
   obtain⟨h1,h2⟩:=hel i hi;obtain⟨s,e1,_,e3⟩:=DataW.trod_string Tryz.underlying9 h2;simp at e1;exact⟨s,e1,e3,by rw[h1,e1]⟩
  refine⟨some a,len,m,(List.range len).map fun i=>strOf' (V i),rfl,⟨by simp,hl,by simp;omega,?_,?_⟩,by omega⟩
  ·intro s hs;obtain⟨i,hi,rfl⟩:=List.mem_map.1 hs;have hi:=List.mem_range.1 hi;obtain⟨s,e1,e2,_⟩:=each i (by omega);rw[e1];exact e2
  ·by_cases h0:m=0
   ·right;have:len=0:=by omega
    subst this;exact⟨rfl,h0⟩
   ·left;obtain⟨s0,_,_,c0⟩:=each 0 (by omega);have ea:a.add 0=a:=by simp[Addr.add]
    rw[ea]at c0;obtain⟨e1,e2⟩:=cell_addr c0;refine⟨a.block,a.off,by rw[←e1],e2,?_⟩;intro i s hs;rw[List.getElem?_map]at hs;by_cases hi:i<len
    ·rw[List.getElem?_range hi]at hs;simp at hs;obtain⟨s',f1,_,f3⟩:=each i (by omega);rw[f1]at hs;have hs:s'=s:=hs;rw[e1,add_plain]at f3;rw[←hs];exact f3
    ·rw[List.getElem?_eq_none (by simp;omega)]at hs;cases hs
theorem bools_open {x:DataW H×List MemPlace}(h:DataW.trod enc Tryz.prog W 0 (fun _=>true) true fuel 89 [v]=some x)(hw:∀k∈DataW.weights Tryz.prog 89 x.1,k≤reachBytes):∃a n c ss,v= .slice a n c∧BoolsIn W a n c ss∧n≤140737488355328:=by
 rcases open_slice1 Tryz.underlying89 (by kernel_rfl) h with⟨hcs,hx⟩|⟨a,len,cap,m,n,V,D,Pl,hcs,hb,hl,hm,hmm,hx,hel⟩
 ·simp at hcs;subst hcs;exact⟨none,0,0,[],rfl,⟨rfl,Nat.le_refl _,by simp,.inr ⟨rfl,rfl⟩⟩,by omega⟩
 ·simp at hcs hmm;subst hcs;subst hmm;have hwt:m*1≤140737488351232:=by
   have e:Tryz.prog.bytesOf 4=1:=by kernel_rfl
   have:=hw ((len+(m-len))*1) (by rw[hx];simp[DataW.weights,Tryz.underlying89,e]);unfold reachBytes at this;omega
  have each:∀i,i<m→∃s:Bool,V i= .bool s∧W.cell? (a.add i)=some (.bool s):=fun i hi=>by
   obtain⟨h1,h2⟩:=hel i hi;obtain⟨s,e1,_⟩:=DataW.trod_bool Tryz.underlying4 h2;simp at e1;exact⟨s,e1,by rw[h1,e1]⟩
  refine⟨some a,len,m,(List.range len).map fun i=>boolOf' (V i),rfl,⟨by simp,hl,by simp;omega,?_⟩,by omega⟩;by_cases h0:m=0
  ·right;have:len=0:=by omega
   subst this;exact⟨rfl,h0⟩
  ·left;obtain⟨s0,_,c0⟩:=each 0 (by omega);have ea:a.add 0=a:=by simp[Addr.add]
   rw[ea]at c0;obtain⟨e1,e2⟩:=cell_addr c0;refine⟨a.block,a.off,by rw[←e1],e2,?_⟩;intro i s hs;rw[List.getElem?_map]at hs;by_cases hi:i<len
   ·rw[List.getElem?_range hi]at hs;simp at hs;obtain⟨s',f1,f3⟩:=each i (by omega);rw[f1]at hs;have hs:s'=s:=hs;rw[e1,add_plain]at f3;rw[←hs];exact f3
   ·rw[List.getElem?_eq_none (by simp;omega)]at hs;cases hs
theorem int_open {x:DataW H×List MemPlace}(h:DataW.trod enc Tryz.prog W 0 (fun _=>true) true fuel 3 [v]=some x):∃n:Int,v= .int .i64 n:=by
 obtain⟨n,e,_⟩:=DataW.trod_int Tryz.underlying3 h;exact⟨n,by simpa using e⟩
theorem bool_open {x:DataW H×List MemPlace}(h:DataW.trod enc Tryz.prog W 0 (fun _=>true) true fuel 4 [v]=some x):∃n:Bool,v= .bool n:=by
 obtain⟨n,e,_⟩:=DataW.trod_bool Tryz.underlying4 h;exact⟨n,by simpa using e⟩
theorem str_open {x:DataW H×List MemPlace}(h:DataW.trod enc Tryz.prog W 0 (fun _=>true) true fuel 9 [v]=some x):∃n:ByteArray,v= .string n∧n.size≤maxLen:=by
 obtain⟨n,e,_,e2⟩:=DataW.trod_string Tryz.underlying9 h;exact⟨n,by simpa using e,e2⟩
theorem each_mem {ts:List TypeId}{xs:List (DataW H×List MemPlace)}{i:Nat}{t:TypeId}{y:DataW H×List MemPlace}(hw:∀k∈DataW.weightsEach Tryz.prog ts (xs.map (·.1)),k≤reachBytes)(ht:ts[i]?=some t)(hy:xs[i]?=some y):∀k∈DataW.weights Tryz.prog t y.1,k≤reachBytes:=
 fun k hk=>hw k (DataW.weights_mem_each ht (by rw[List.getElem?_map,hy];rfl) k hk)
theorem list18 {α:Type}{l:List α}(h:l.length=18):∃c0 c1 c2 c3 c4 c5 c6 c7 c8 c9 c10 c11 c12 c13 c14 c15 c16 c17,l=[c0,c1,c2,c3,c4,c5,c6,c7,c8,c9,c10,c11,c12,c13,c14,c15,c16,c17]:=by
 match l,h with
 | [c0,c1,c2,c3,c4,c5,c6,c7,c8,c9,c10,c11,c12,c13,c14,c15,c16,c17],_=>exact⟨c0,c1,c2,c3,c4,c5,c6,c7,c8,c9,c10,c11,c12,c13,c14,c15,c16,c17,rfl⟩
theorem field_at {fs:Array Field}{xs:List (DataW H×List MemPlace)}(hf:∀(i:Nat) (f:Field),fs[i]?=some f→DataW.trod enc Tryz.prog W 0 (fun _=>true) true n f.type ((cs.drop f.offset).take (Tryz.prog.cellsOf f.type))=xs[i]?)(i:Nat)(f:Field)(hi:fs[i]?=some f)(t:TypeId)(o sz:Nat)(ht:f.type=t)(ho:f.offset=o)(hs:Tryz.prog.cellsOf t=sz){y:DataW H×List MemPlace}(hy:xs[i]?=some y)(cs':List Value)(hc:(cs.drop o).take sz=cs'):DataW.trod enc Tryz.prog W 0 (fun _=>true) true n t cs'=some y:=by
 subst ht ho hs hc;exact(hf i f hi).trans hy
theorem op_open {x:DataW H×List MemPlace}(h:DataW.trod enc Tryz.prog W 0 (fun _=>true) true fuel 95 cs=some x)(hw:∀k∈DataW.weights Tryz.prog 95 x.1,k≤reachBytes):∃k:Int,cs.length=18∧cs[0]?=some (.int .i64 k)∧OpIn W k (.agg cs.toArray):=by
 obtain⟨xs,n,_,rfl,hl,hxl,hf⟩:=DataW.trod_struct Tryz.underlying95 h;have e18:Tryz.prog.cellsOf 95=18:=by kernel_rfl
 rw[e18]at hl;have hw1:∀k∈DataW.weightsEach Tryz.prog [3,3,36,91,93,9,3,3] (xs.map (·.1)),k≤reachBytes:=by
  intro k hk;refine hw k ?_;simp only[DataW.weights,Tryz.underlying95]
  exact hk
 have get:∀(l:List (DataW H×List MemPlace)) (m i:Nat),l.length=m→i<m→∃y,l[i]?=some y:=fun l m i a b=>⟨l[i]'(by omega),List.getElem?_eq_getElem _⟩
 have hxl:xs.length=8:=hxl;obtain⟨c0,c1,c2,c3,c4,c5,c6,c7,c8,c9,c10,c11,c12,c13,c14,c15,c16,c17,rfl⟩:=list18 hl;have s3:Tryz.prog.cellsOf 3=1:=by kernel_rfl
 have s4:Tryz.prog.cellsOf 4=1:=by kernel_rfl
 have s9:Tryz.prog.cellsOf 9=1:=by kernel_rfl
 have s34:Tryz.prog.cellsOf 34=1:=by kernel_rfl
 have s54:Tryz.prog.cellsOf 89=1:=by kernel_rfl
 have s36:Tryz.prog.cellsOf 36=6:=by kernel_rfl
 have s56:Tryz.prog.cellsOf 91=4:=by kernel_rfl
 have s58:Tryz.prog.cellsOf 93=3:=by kernel_rfl
 obtain⟨y0,g0⟩:=get xs 8 0 hxl (by omega);obtain⟨y1,g1⟩:=get xs 8 1 hxl (by omega);obtain⟨y2,g2⟩:=get xs 8 2 hxl (by omega);obtain⟨y3,g3⟩:=get xs 8 3 hxl (by omega);obtain⟨y4,g4⟩:=get xs 8 4 hxl (by omega);obtain⟨y5,g5⟩:=get xs 8 5 hxl (by omega);obtain⟨y6,g6⟩:=get xs 8 6 hxl (by omega);obtain⟨y7,g7⟩:=get xs 8 7 hxl (by omega);have f0:=field_at hf 0 _ rfl 3 0 1 rfl rfl s3 g0 [c0] rfl;have f1:=field_at hf 1 _ rfl 3 1 1 rfl rfl s3 g1 [c1] rfl;have f2:=field_at hf 2 _ rfl 36 2 6 rfl rfl s36 g2 [c2,c3,c4,c5,c6,c7] rfl;have f3:=field_at hf 3 _ rfl 91 8 4 rfl rfl s56 g3 [c8,c9,c10,c11] rfl;have f4:=field_at hf 4 _ rfl 93 12 3 rfl rfl s58 g4 [c12,c13,c14] rfl;have f5:=field_at hf 5 _ rfl 9 15 1 rfl rfl s9 g5 [c15] rfl
 have f6:=field_at hf 6 _ rfl 3 16 1 rfl rfl s3 g6 [c16] rfl;have f7:=field_at hf 7 _ rfl 3 17 1 rfl rfl s3 g7 [c17] rfl;have w2:=each_mem hw1 (i:=2) rfl g2;have w3:=each_mem hw1 (i:=3) rfl g3;obtain⟨k,rfl⟩:=int_open f0;obtain⟨at',rfl⟩:=int_open f1;obtain⟨s,rfl,hs⟩:=str_open f5;obtain⟨x,rfl⟩:=int_open f6;obtain⟨y,rfl⟩:=int_open f7;obtain⟨xc,nc,_,rfl,_,hcl,hcf⟩:=DataW.trod_struct Tryz.underlying36 f2;have hcl:xc.length=6:=hcl;have wc:∀k∈DataW.weightsEach Tryz.prog [3,34,9,9,4,3] (xc.map (·.1)),k≤reachBytes:=by
  intro k hk;refine w2 k ?_;simp only[DataW.weights,Tryz.underlying36]
  exact hk
 obtain⟨z0,q0⟩:=get xc 6 0 hcl (by omega);obtain⟨z1,q1⟩:=get xc 6 1 hcl (by omega);obtain⟨z2,q2⟩:=get xc 6 2 hcl (by omega);obtain⟨z3,q3⟩:=get xc 6 3 hcl (by omega);obtain⟨z4,q4⟩:=get xc 6 4 hcl (by omega);obtain⟨z5,q5⟩:=get xc 6 5 hcl (by omega);have p0:=field_at hcf 0 _ rfl 3 0 1 rfl rfl s3 q0 [c2] rfl;have p1:=field_at hcf 1 _ rfl 34 1 1 rfl rfl s34 q1 [c3] rfl;have p2:=field_at hcf 2 _ rfl 9 2 1 rfl rfl s9 q2 [c4] rfl;have p3:=field_at hcf 3 _ rfl 9 3 1 rfl rfl s9 q3 [c5] rfl;have p4:=field_at hcf 4 _ rfl 4 4 1 rfl rfl s4 q4 [c6] rfl;have p5:=field_at hcf 5 _ rfl 3 5 1 rfl rfl s3 q5 [c7] rfl;obtain⟨ck,rfl⟩:=int_open p0;obtain⟨a,n',c,ss,rfl,hS,hn⟩:=strs_open p1 (each_mem wc (i:=1) rfl q1);obtain⟨val,rfl,hval⟩:=str_open p2
 obtain⟨cw,rfl,_⟩:=str_open p3;obtain⟨ft,rfl⟩:=bool_open p4;obtain⟨cid,rfl⟩:=int_open p5;obtain⟨xa,na,_,rfl,_,hal,haf⟩:=DataW.trod_struct Tryz.underlying91 f3;have hal:xa.length=4:=hal;have wa:∀k∈DataW.weightsEach Tryz.prog [3,89,34,9] (xa.map (·.1)),k≤reachBytes:=by
  intro k hk;refine w3 k ?_;simp only[DataW.weights,Tryz.underlying91]
  exact hk
 obtain⟨u0,r0⟩:=get xa 4 0 hal (by omega);obtain⟨u1,r1⟩:=get xa 4 1 hal (by omega);obtain⟨u2,r2⟩:=get xa 4 2 hal (by omega);obtain⟨u3,r3⟩:=get xa 4 3 hal (by omega);have t0:=field_at haf 0 _ rfl 3 0 1 rfl rfl s3 r0 [c8] rfl;have t1:=field_at haf 1 _ rfl 89 1 1 rfl rfl s54 r1 [c9] rfl;have t2:=field_at haf 2 _ rfl 34 2 1 rfl rfl s34 r2 [c10] rfl;have t3:=field_at haf 3 _ rfl 9 3 1 rfl rfl s9 r3 [c11] rfl;obtain⟨ak,rfl⟩:=int_open t0;obtain⟨fa,fn,fc,bs,rfl,hF,hfn⟩:=bools_open t1 (each_mem wa (i:=1) rfl r1);obtain⟨va,vn,vc,vs,rfl,hV,hvn⟩:=strs_open t2 (each_mem wa (i:=2) rfl r2);obtain⟨wd,rfl,hwd⟩:=str_open t3;obtain⟨xg,ng,_,rfl,_,hgl,hgf⟩:=DataW.trod_struct Tryz.underlying93 f4;have hgl:xg.length=3:=hgl
 obtain⟨o0,v0⟩:=get xg 3 0 hgl (by omega);obtain⟨o1,v1⟩:=get xg 3 1 hgl (by omega);obtain⟨o2,v2⟩:=get xg 3 2 hgl (by omega);have l0:=field_at hgf 0 _ rfl 3 0 1 rfl rfl s3 v0 [c12] rfl;have l1:=field_at hgf 1 _ rfl 3 1 1 rfl rfl s3 v1 [c13] rfl;have l2:=field_at hgf 2 _ rfl 3 2 1 rfl rfl s3 v2 [c14] rfl;obtain⟨gg0,rfl⟩:=int_open l0;obtain⟨gg1,rfl⟩:=int_open l1;obtain⟨gg2,rfl⟩:=int_open l2;exact⟨k,rfl,rfl,at',ck,a,n',c,ss,val,cw,ft,cid,ak,fa,va,fn,fc,vn,vc,bs,vs,wd,gg0,gg1,gg2,s,x,y,rfl,hS,hval,hF,hV,hwd,hs,hn,hfn,hvn⟩
theorem weightsAll_mem {e:TypeId}:∀{l:List (DataW H)} {d:DataW H},d∈l→∀n∈d.weights Tryz.prog e,n∈DataW.weightsAll Tryz.prog e l
 |x::l,d,hd,n,hn=>by
  unfold DataW.weightsAll;rw[List.mem_append];rcases List.mem_cons.1 hd with rfl|h
  ·exact .inl hn
  ·exact .inr (weightsAll_mem h n hn)
theorem cells_get (h:w.cells? 0 a n=some cs):∀i,i<n→w.cell? (a.add i)=cs[i]?:=by
 intro i hi;unfold World.cells? at h;rw[if_pos (Nat.zero_le _)]at h;exact mapM_some_get h i i (List.getElem?_range hi)
end
set_option maxRecDepth 20000
variable {fuel:Nat}
section
variable {H:Type}{enc:TypeId×Value→H}{W:World}
theorem bulk_mem:∀{l:List (DataW H)} {d:DataW H},d∈l→Rows.uptoBulk d≤Rows.uptoBulkAll l
 |x::l,d,hd=>by
  simp only[Rows.uptoBulkAll]
  rcases List.mem_cons.1 hd with rfl|h
  ·omega
  ·have:=bulk_mem h;omega
theorem bulk_app:∀(l m:List (DataW H)),Rows.uptoBulkAll (l++m)=Rows.uptoBulkAll l+Rows.uptoBulkAll m
 | [],m=>by simp[Rows.uptoBulkAll]
 |x::l,m=>by
  simp only[List.cons_append,Rows.uptoBulkAll]
  rw[bulk_app l m];omega
theorem bulk_range (D:Nat→DataW H):∀n,Rows.uptoBulkAll ((List.range n).map D)=sumTo (fun i=>Rows.uptoBulk (D i)) n
 |0=>by simp[Rows.uptoBulkAll,sumTo]
 |n+1=>by
  rw[List.range_succ,List.map_append,bulk_app,bulk_range D n];simp[Rows.uptoBulkAll,sumTo]
theorem op_bulk {cs:List Value}{x:DataW H×List MemPlace}(h:DataW.trod enc Tryz.prog W 0 (fun _=>true) true fuel 95 cs=some x):∃s:ByteArray,cs[15]?=some (.string s)∧s.size+1≤Rows.uptoBulk x.1:=by
 obtain⟨xs,n,_,rfl,hl,hxl,hf⟩:=DataW.trod_struct Tryz.underlying95 h;have e18:Tryz.prog.cellsOf 95=18:=by kernel_rfl
 rw[e18]at hl;have s9:Tryz.prog.cellsOf 9=1:=by kernel_rfl
 have hxl:xs.length=8:=hxl;obtain⟨c0,c1,c2,c3,c4,c5,c6,c7,c8,c9,c10,c11,c12,c13,c14,c15,c16,c17,rfl⟩:=list18 hl;obtain⟨y5,g5⟩:∃y,xs[5]?=some y:=⟨xs[5]'(by omega),List.getElem?_eq_getElem _⟩
 have f5:=field_at hf 5 _ rfl 9 15 1 rfl rfl s9 g5 [c15] rfl;obtain⟨s,e1,e2,_⟩:=DataW.trod_string Tryz.underlying9 f5;have e1:c15= .string s:=by simpa using e1
 refine⟨s,by rw[e1];rfl,?_⟩;have hm:y5.1∈xs.map (·.1):=List.mem_map.2 ⟨y5,List.mem_of_getElem? g5,rfl⟩;have hb:=bulk_mem hm;rw[e2]at hb;simp only[Rows.uptoBulk]at hb⊢;have:=len_size' s;omega
theorem script_bulk {base:Nat}{v:Value}{x:DataW H×List MemPlace}(h:DataW.trod enc Tryz.prog W 0 (fun _=>true) true fuel 22 [v]=some x)(hok:Value.okWide Tryz.prog W .any base 22 v)(hw:∀k∈DataW.weights Tryz.prog 22 x.1,k≤reachBytes):v= .slice none 0 0∨∃b o N c kf csf bk,v= .slice (some ⟨b,o,none⟩) N c∧ScriptB W b o N kf csf bk∧N≤c∧N+sumTo bk N≤Rows.uptoBulk x.1:=by
 rcases open_slice Tryz.underlying22 h with⟨hcs,hx⟩|⟨a,len,cap,m,n,D,Pl,hcs,hb,hl,hm,hmm,hx,hel⟩
 ·left;simpa using hcs
 ·right;simp at hcs hmm;subst hcs;subst hmm;have hhas:a.spot=none∧a.block<W.heap.size:=by
   simp[Value.okWide,Cell.okWide,Cell.ok,Tryz.underlying22,World.has]at hok;obtain⟨_,_,_,hsp,r,c,hsh,_⟩:=hok;refine⟨hsp,?_⟩;unfold World.shape? at hsh;split at hsh
   ·rename_i hbk;exact(Array.getElem?_eq_some_iff.1 hbk).1
   ·cases hsh
  obtain⟨b,o,sp⟩:=a;obtain⟨hsp,hlt⟩:=hhas;simp only at hsp hlt;subst hsp;have e60:Tryz.prog.cellsOf 95=18:=by kernel_rfl
  rw[e60]at hel;have each:∀j,∃(k:Int) (cs:List Value),j<len→cs.length=18∧W.cell? ⟨b,o+j*18,none⟩=some (.int .i64 k)∧W.rangeAt b (o+j*18) cs∧OpIn W k (.agg cs.toArray)∧∃s:ByteArray,cs[15]?=some (.string s)∧s.size+1≤Rows.uptoBulk (D j):=by
   intro j;by_cases hj:j<len
   ·obtain⟨cs,hc1,hc2⟩:=hel j (by omega);obtain⟨k,hcl,hk0,hO⟩:=op_open hc2 (fun k hk=>hw k (by
     rw[hx];simp only[DataW.weights,Tryz.underlying22,List.mem_cons,List.mem_append]
     exact .inr (.inl (weightsAll_mem (List.mem_map.2 ⟨j,List.mem_range.2 hj,rfl⟩) k hk))))
    have hg:=cells_get hc1;rw[add_plain]at hg;have hr:W.rangeAt b (o+j*18) cs:=by
     intro i u hu;have hi:i<18:=by rw[←hcl];exact(List.getElem?_eq_some_iff.1 hu).1
     have:=hg i hi;rw[add_plain]at this;rw[this,hu]
    refine⟨k,cs,fun _=>⟨hcl,?_,hr,hO,op_bulk hc2⟩⟩;have:=hr 0 _ hk0;simpa using this
   ·exact⟨0,[],fun h=>absurd h hj⟩
  obtain⟨kf,h1⟩:=Classical.axiomOfChoice each;obtain⟨csf,h2⟩:=Classical.axiomOfChoice h1;have hsum:∀n,n≤len→n+sumTo (fun i=>Rows.uptoBulk (D i)-1) n≤sumTo (fun i=>Rows.uptoBulk (D i)) n:=by
   intro n;induction n with
   |zero=>intro _;simp[sumTo]
   |succ n ih=>
    intro hn;have:=ih (by omega);obtain⟨_,_,_,_,s,_,hs⟩:=h2 n (by omega);simp only[sumTo]
    omega
  refine⟨b,o,len,m,kf,csf,fun i=>Rows.uptoBulk (D i)-1,rfl,⟨hlt,fun j hj=>?_,fun j hj=>?_⟩,hl,?_⟩
  ·obtain⟨a1,a2,a3,a4,_⟩:=h2 j hj;exact⟨a1,a2,a3,a4⟩
  ·obtain⟨_,_,_,_,s,e1,e2⟩:=h2 j hj;exact⟨s,e1,by omega⟩
  ·rw[hx];simp only[Rows.uptoBulk]
   rw[bulk_range];have:=hsum len (Nat.le_refl _);omega
end
end Go.Proofs.YtlonjggfnleolaaGreatDoor
