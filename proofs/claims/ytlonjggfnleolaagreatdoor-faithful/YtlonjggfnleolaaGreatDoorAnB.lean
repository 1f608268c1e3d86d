import Derived.Test.YtlonjggfnleolaaGreatDoorRefA
import Derived.Test.YtlonjggfnleolaaGreatDoorTextsG
import Derived.Test.YtlonjggfnleolaaGreatDoorLsRef
import Derived.Lib.FrozenHead
import Derived.Lib.Builder
import Derived.Shelf.Strings.BuilderX
import Derived.Laws.MakeOwn
import Derived.Maps.AppendAt
namespace Go.Proofs.YtlonjggfnleolaaGreatDoor
open Go.RowKit Go.Shelf
set_option linter.unusedVariables false
set_option maxHeartbeats 1000000
set_option maxRecDepth 100000
variable {M M':List Nat}{w w' a b:World}
structure Chg (M:List Nat)(w w':World):Prop where
 os:w'.os=w.os
 tape:w'.tape=w.tape
 output:w'.output=w.output
 size:w.heap.size≤w'.heap.size
 block:∀k,k<w.heap.size→k∉M→w'.heap[k]?=w.heap[k]?
theorem Chg.refl (M:List Nat)(w:World):Chg M w w:=⟨rfl,rfl,rfl,Nat.le_refl _,fun _ _ _=>rfl⟩
theorem Chg.of_below (h:Below w.heap.size w w'):Chg M w w':=⟨h.os,h.tape,h.output,h.size,fun k hk _=>h.block k hk⟩
theorem Chg.drew (h:Chg M w w'):Chg M w w'.drew:=⟨h.os,h.tape,h.output,h.size,h.block⟩
theorem Chg.undrew (h:Chg M w.drew w'):Chg M w w':=⟨h.os,h.tape,h.output,h.size,h.block⟩
def Later (w:World)(M M':List Nat):Prop:=∀b∈M',b∈M∨w.heap.size≤b
theorem Later.refl (w:World)(M:List Nat):Later w M M:=fun b h=> .inl h
theorem Later.trans {M'':List Nat}(h:Later w M M')(k:Later w' M' M'')(hs:w.heap.size≤w'.heap.size):Later w M M'':=fun b hb=>by
 rcases k b hb with h1|h1
 ·exact h b h1
 ·exact .inr (Nat.le_trans hs h1)
theorem Chg.trans {c:World}(h:Chg M a b)(k:Chg M' b c)(hl:Later a M M'):Chg M a c:=
 ⟨k.os.trans h.os,k.tape.trans h.tape,k.output.trans h.output,Nat.le_trans h.size k.size,fun i hi hn=>(k.block i (Nat.lt_of_lt_of_le hi h.size) (fun hm=>by
  rcases hl i hm with h1|h1
  ·exact hn h1
  ·omega)).trans (h.block i hi hn)⟩
theorem Chg.more (h:Chg M a b)(hm:∀x∈M,x∈M'):Chg M' a b:=
 ⟨h.os,h.tape,h.output,h.size,fun k hk hn=>h.block k hk (fun hh=>hn (hm k hh))⟩
theorem Chg.keep (h:Chg M a b){k:Nat}{o:Obj}(hk:a.heap[k]?=some o)(hn:k∉M):b.heap[k]?=some o:=(h.block k (blkLt hk) hn).trans hk
theorem Chg.set (h:Chg M a w){p:Addr}(hp:p.block∈M∨a.heap.size≤p.block)(v:Value):Chg M a (w.setCell p v):=by
 have sb:Below 0 w (w.setCell p v):=(Below.refl 0 w).setCell (p:=p) (Nat.zero_le _) _;exact⟨sb.os.trans h.os,sb.tape.trans h.tape,sb.output.trans h.output,Nat.le_trans h.size sb.size,fun k hk hn=>(Below.heap_setCell w p v k (fun e=>by
  rcases hp with hp|hp
  ·exact hn (e▸hp)
  ·omega)).trans (h.block k hk hn)⟩
theorem Chg.grown {row:Option Nat}(h:Chg M a w)(hg:w.grownBy w' row)(hr:∀b,row=some b→b∈M∨a.heap.size≤b):Chg M a w':=
 ⟨hg.os.trans h.os,hg.tape.trans h.tape,hg.output.trans h.output,Nat.le_trans h.size hg.size,fun k hk hn=>(hg.block k (Nat.lt_of_lt_of_le hk h.size) (fun e=>by
  rcases hr k e.symm with h1|h1
  ·exact hn h1
  ·omega)).trans (h.block k hk hn)⟩
theorem shapeOf {b T n:Nat}{Z:Array Value}{f:Nat×Nat}(h:w.heap[b]?=some (.cells Z T f))(hn:Z.size=n):w.shape? b=some (T,n):=by simp[World.shape?,h,hn]
theorem info123:(Tryz.prog.info? 123).map (·.size)=some 2:=by kernel_rfl
theorem bld_check_used (b o:Nat)(w:World)(h0:w.cell? ⟨b,o,none⟩=some (.pointer (some ⟨b,o,none⟩))):Calls Tryz.prog 159 #[.pointer (some ⟨b,o,none⟩)] w fun e w'=>e= .returned (.tuple #[])∧w'=w:=by
 obtain⟨j,hj,hjs⟩:=Option.map_eq_some_iff.1 info123;have hlt:=World.block_lt_of_cell? w ⟨b,o,none⟩ h0;go_enter Tryz.func159,Tryz.ntmps159;go_wp2;rw[Lib.run_neq_ptr_same w _ Tryz.underlying121 hj];go_wp2;go_end0;exact⟨rfl,rfl⟩
theorem bld_check_fresh (b o T n:Nat)(Z:Array Value)(w:World)(hb:w.heap[b]?=some (.cells Z T (0,0)))(hn:Z.size=n)(ho:o<n)(hlies:liesAt Tryz.prog Tryz.prog.depth T (n / Tryz.prog.cellsOf T) o 123 1=true)(h0:Z[o]?=some (.pointer none)):Calls Tryz.prog 159 #[.pointer (some ⟨b,o,none⟩)] w fun e w'=>e= .returned (.tuple #[])∧w'=w.setCell ⟨b,o,none⟩ (.pointer (some ⟨b,o,none⟩)):=by
 obtain⟨j,hj,hjs⟩:=Option.map_eq_some_iff.1 info123;have hsh:=shapeOf hb hn;have hc:w.cell? ⟨b,o,none⟩=some (.pointer none):=(blkCell hb o).trans h0;have hf:=blkFree hb o;have hlt:=blkLt hb;go_enter Tryz.func159,Tryz.ntmps159;go_wp2;rw[Lib.run_to_unsafe w ⟨b,o,none⟩ Tryz.underlying121 Tryz.underlying269 hj (by rw[hjs];decide) hsh ho];simp only[Result.andThen]
 rw[Oper.upon_value];go_wp2;rw[run_callFunc_extern Tryz.func169 (by kernel_rfl) (by kernel_rfl) (by kernel_rfl) (e:=Extern.AbiNoEscape.same) (by kernel_rfl)];rw[Lib.run_noEscape];simp only[Result.andThen]
 rw[Oper.upon_value];go_wp2;rw[Lib.run_from_unsafe w ⟨b,o,none⟩ Tryz.underlying269 Tryz.underlying121 hj hsh hlies];simp only[Result.andThen]
 rw[Oper.upon_value];go_wp2;go_end0;exact⟨rfl,rfl⟩
set_option maxHeartbeats 1000000
set_option maxRecDepth 100000
theorem made_one (z:Value)(n:Nat):madeCells #[z] n=Array.replicate n z:=by
 apply Array.ext_getElem?;intro i;unfold madeCells;by_cases h:i<n
 ·have h1:i % 1=0:=Nat.mod_one i;simp[h,h1]
 ·simp[h]
theorem info4:∃i,Tryz.prog.info? 4=some i∧i.zero=some (.bool false)∧i.size=1∧i.bytes=1:=by
 have h:(Tryz.prog.info? 4).map (fun i=>(i.zero,i.size,i.bytes))=some (some (.bool false),1,1):=by kernel_rfl
 obtain⟨i,hi,h0⟩:=Option.map_eq_some_iff.1 h;simp at h0;exact⟨i,hi,h0.1,h0.2.1,h0.2.2⟩
theorem info9s:∃i,Tryz.prog.info? 9=some i∧i.zero=some (.string ⟨#[]⟩)∧i.size=1∧i.bytes=16:=by
 have h:(Tryz.prog.info? 9).map (fun i=>(i.zero,i.size,i.bytes))=some (some (.string ⟨#[]⟩),1,16):=by kernel_rfl
 obtain⟨i,hi,h0⟩:=Option.map_eq_some_iff.1 h;simp at h0;exact⟨i,hi,h0.1,h0.2.1,h0.2.2⟩
theorem mk89 (n:Nat)(h:n≤1000000)(w:World):(Instr.makeSlice 89 (.int .i64 n) (.int .i64 n)).run Tryz.prog w= .ok (.slice (some ⟨w.heap.size,0,none⟩) n n) (w.alloc (.cells (Array.replicate n (.bool false)) 4)):=by
 obtain⟨i,hi,hz,hs,hb⟩:=info4;have:=run_makeSlice (P:=Tryz.prog) w 89 4 i _ Tryz.underlying89 hi hz .i64 .i64 n n (by omega) (by omega) (by rw[hs];simp;omega) (by rw[hb];omega) (by omega);rw[this,hs];simp[Value.cells,made_one]
theorem mk34 (n:Nat)(h:n≤1000000)(w:World):(Instr.makeSlice 34 (.int .i64 n) (.int .i64 n)).run Tryz.prog w= .ok (.slice (some ⟨w.heap.size,0,none⟩) n n) (w.alloc (.cells (Array.replicate n (.string ⟨#[]⟩)) 9)):=by
 obtain⟨i,hi,hz,hs,hb⟩:=info9s;have:=run_makeSlice (P:=Tryz.prog) w 34 9 i _ Tryz.underlying34 hi hz .i64 .i64 n n (by omega) (by omega) (by rw[hs];simp;omega) (by rw[hb];omega) (by omega);rw[this,hs];simp[Value.cells,made_one]
theorem alloc4 (w:World)(A B C D:Obj):((((w.alloc A).alloc B).alloc C).alloc D).heap[w.heap.size+1]?=some B∧((((w.alloc A).alloc B).alloc C).alloc D).heap[w.heap.size+1+1]?=some C∧((((w.alloc A).alloc B).alloc C).alloc D).heap[w.heap.size+1+1+1]?=some D∧Below w.heap.size w ((((w.alloc A).alloc B).alloc C).alloc D):=by
 have s1:(w.alloc A).heap.size=w.heap.size+1:=World.size_alloc _ _;have s2:((w.alloc A).alloc B).heap.size=w.heap.size+1+1:=by rw[World.size_alloc,s1]
 have s3:(((w.alloc A).alloc B).alloc C).heap.size=w.heap.size+1+1+1:=by rw[World.size_alloc,s2]
 have b:=blkNew (w.alloc A) B;have c:=blkNew ((w.alloc A).alloc B) C;have d:=blkNew (((w.alloc A).alloc B).alloc C) D;rw[s1]at b;rw[s2]at c;rw[s3]at d;refine⟨?_,?_,d,((((Below.refl _ w).alloc (Nat.le_refl _) _).alloc (by omega) _).alloc (by omega) _).alloc (by omega) _⟩
 ·rw[Below.heap_alloc _ _ _ (by omega),Below.heap_alloc _ _ _ (by omega),b]
 ·rw[Below.heap_alloc _ _ _ (by omega),c]
def quO (k:Int)(kv:Value)(val wd:ByteArray)(ft:Bool)(id:Int)(n:Int)(fa re:Bool)(yv vv:Value):Obj:= .cells #[.int .i64 k,kv,.string val,.string wd,.bool ft,.int .i64 id,.int .i64 n,.bool fa,.bool re,yv,vv] 216 (0,0)
theorem newQuestion_any (k:Int)(ka:Option Addr)(kn kc:Nat)(val wd:ByteArray)(ft:Bool)(id:Int)(w:World)(hk:kn≤1000000):Calls Tryz.prog 131 #[.agg #[.int .i64 k,.slice ka kn kc,.string val,.string wd,.bool ft,.int .i64 id]] w fun e w'=>∃(q yb vb:Nat),e= .returned (.pointer (some ⟨q,0,none⟩))∧w'.heap[q]?=some (quO k (.slice ka kn kc) val wd ft id kn false false (.slice (some ⟨yb,0,none⟩) kn kn) (.slice (some ⟨vb,0,none⟩) kn kn))∧w'.heap[yb]?=some (.cells (Array.replicate kn (.bool false)) 4 (0,0))∧w'.heap[vb]?=some (.cells (Array.replicate kn (.string ⟨#[]⟩)) 9 (0,0))∧w.heap.size≤q∧w.heap.size≤yb∧w.heap.size≤vb∧Below w.heap.size w w':=by
 have mixed:Tryz.prog.follows .mixedOrders=true:=by kernel_rfl
 have m1:=mk89 kn hk;have m2:=mk34 kn hk;have H4:=hide' (alloc4 w);go_enter Tryz.func131,Tryz.ntmps131;go_wp2;go_region
 all_goals go_wp2
 ·go_ret;obtain⟨h1,h2,h3,h4⟩:=H4.out (.cells #[.int .i64 k,.slice ka kn kc,.string val,.string wd,.bool ft,.int .i64 id] 36) (.cells (Array.replicate kn (.bool false)) 4) (.cells (Array.replicate kn (.string ⟨#[]⟩)) 9) (quO k (.slice ka kn kc) val wd ft id kn false false (.slice (some ⟨w.heap.size+1,0,none⟩) kn kn) (.slice (some ⟨w.heap.size+1+1,0,none⟩) kn kn));exact⟨w.heap.size+1+1+1,w.heap.size+1,w.heap.size+1+1,rfl,h3,h1,h2,by omega,by omega,by omega,h4.drew⟩
 ·go_ret;obtain⟨h1,h2,h3,h4⟩:=H4.out (.cells #[.int .i64 k,.slice ka kn kc,.string val,.string wd,.bool ft,.int .i64 id] 36) (.cells (Array.replicate kn (.string ⟨#[]⟩)) 9) (.cells (Array.replicate kn (.bool false)) 4) (quO k (.slice ka kn kc) val wd ft id kn false false (.slice (some ⟨w.heap.size+1+1,0,none⟩) kn kn) (.slice (some ⟨w.heap.size+1,0,none⟩) kn kn));exact⟨w.heap.size+1+1+1,w.heap.size+1+1,w.heap.size+1,rfl,h3,h2,h1,by omega,by omega,by omega,h4.drew⟩
set_option maxHeartbeats 1000000
set_option maxRecDepth 100000
theorem quCells {w:World}{q:Nat}{k:Int}{kv:Value}{val wd:ByteArray}{ft:Bool}{id n:Int}{fa re:Bool}{yv vv:Value}(h:w.heap[q]?=some (quO k kv val wd ft id n fa re yv vv)):
 w.cell? ⟨q,0,none⟩=some (.int .i64 k)∧w.cell? ⟨q,6,none⟩=some (.int .i64 n)∧w.cell? ⟨q,7,none⟩=some (.bool fa)∧w.cell? ⟨q,8,none⟩=some (.bool re)∧w.cell? ⟨q,9,none⟩=some yv∧w.cell? ⟨q,10,none⟩=some vv∧∀j,w.frozen? ⟨q,j,none⟩=false:=
 ⟨blkCell h 0,blkCell h 6,blkCell h 7,blkCell h 8,blkCell h 9,blkCell h 10,blkFree h⟩
theorem qfail_any (q:Nat)(k:Int)(kv:Value)(val wd:ByteArray)(ft:Bool)(id:Int)(n:Nat)(fa re:Bool)(yv vv:Value)(w:World)(h:w.heap[q]?=some (quO k kv val wd ft id ((n+1:Nat):Int) fa re yv vv))(hn:n≤1000):Calls Tryz.prog 136 #[.pointer (some ⟨q,0,none⟩)] w fun e w'=>e= .returned (.tuple #[])∧w'.heap[q]?=some (quO k kv val wd ft id (n:Int) true re yv vv)∧Chg [q] w w':=by
 obtain⟨_,c6,c7,_,_,_,cf⟩:=quCells h;have hlt:=blkLt h;have HF:Hid (((w.setCell ⟨q,6,none⟩ (.int .i64 (n:Int))).setCell ⟨q,7,none⟩ (.bool true)).heap[q]?=some (quO k kv val wd ft id (n:Int) true re yv vv)∧Chg [q] w ((w.setCell ⟨q,6,none⟩ (.int .i64 (n:Int))).setCell ⟨q,7,none⟩ (.bool true))):=⟨(blkSet (i:=7) (blkSet (i:=6) h _) _).trans rfl,((Chg.refl _ w).set (.inl (by simp)) _).set (.inl (by simp)) _⟩
 have wrn:IntKind.i64.wrap (((n+1:Nat):Int)-1)=(n:Int):=by rw[wrap_small _ (by omega) (by omega)];omega
 clear h;go_enter Tryz.func136,Tryz.ntmps136;go_wp2;go_end0;exact⟨rfl,HF.out⟩
structure Reply where
 st:Nat
 id:Nat
 val:ByteArray
 used:Nat
def replyV (r:Reply):Value:= .agg #[.int .i64 (r.st:Int),.int .u16 (r.id:Int),.string r.val,.int .i64 (r.used:Int)]
def zReplyV:Value:= .agg #[.int .i64 0,.int .u16 0,.string ⟨#[]⟩,.int .i64 0]
theorem qtake_any (q yb vb i kn:Nat)(k:Int)(kv:Value)(val wd:ByteArray)(ft:Bool)(id:Int)(n:Nat)(fa re:Bool)(Zy Zv:Array Value)(r:Reply)(w:World)(h:w.heap[q]?=some (quO k kv val wd ft id ((n+1:Nat):Int) fa re (.slice (some ⟨yb,0,none⟩) kn kn) (.slice (some ⟨vb,0,none⟩) kn kn)))(hy:w.heap[yb]?=some (.cells Zy 4 (0,0)))(hv:w.heap[vb]?=some (.cells Zv 9 (0,0)))(hZy:Zy.size=kn)(hZv:Zv.size=kn)(hi:i<kn)(hkn:kn≤1000)(hn:n≤1000)(hst:r.st=0∨r.st=1∨r.st=2):Calls Tryz.prog 135 #[.pointer (some ⟨q,0,none⟩),.int .i64 (i:Int),replyV r] w fun e w'=>e= .returned (.tuple #[])∧w'.heap[q]?=some (quO k kv val wd ft id (n:Int) fa (re || decide (r.st=2)) (.slice (some ⟨yb,0,none⟩) kn kn) (.slice (some ⟨vb,0,none⟩) kn kn))∧w'.heap[yb]?=some (.cells (Zy.set! i (.bool (decide (r.st=0)))) 4 (0,0))∧w'.heap[vb]?=some (.cells (Zv.set! i (.string r.val)) 9 (0,0))∧Chg [q,yb,vb] w w':=by
 obtain⟨_,c6,_,c8,c9,c10,cf⟩:=quCells h;have hlt:=blkLt h;have hly:=blkLt hy;have hlv:=blkLt hv;have qy:¬q=yb:=fun e=>by rw[e,hy]at h;unfold quO at h;simp at h
 have qv:¬q=vb:=fun e=>by rw[e,hv]at h;unfold quO at h;simp at h
 have yv:¬yb=vb:=fun e=>by rw[e,hv]at hy;simp at hy
 have yq:¬yb=q:=fun e=>qy e.symm
 have vq:¬vb=q:=fun e=>qv e.symm
 have vy:¬vb=yb:=fun e=>yv e.symm
 obtain⟨y0,hy0⟩:∃y0,Zy[i]?=some y0:=⟨_,Array.getElem?_eq_getElem (by omega)⟩
 obtain⟨v0,hv0⟩:∃v0,Zv[i]?=some v0:=⟨_,Array.getElem?_eq_getElem (by omega)⟩
 have cy:w.cell? ⟨yb,i,none⟩=some y0:=(blkCell hy i).trans hy0;have cv:w.cell? ⟨vb,i,none⟩=some v0:=(blkCell hv i).trans hv0;have fy:=blkFree hy i;have fv:=blkFree hv i;have wrn:IntKind.i64.wrap (((n+1:Nat):Int)-1)=(n:Int):=by rw[wrap_small _ (by omega) (by omega)];omega
 have HF:Hid (∀(O:Obj) (b1 b2:Bool),((((((w.setCell ⟨q,6,none⟩ (.int .i64 (n:Int))).setCell ⟨q,8,none⟩ (.bool b1)).setCell ⟨yb,i,none⟩ (.bool b2)).setCell ⟨vb,i,none⟩ (.string r.val)).alloc O)).heap[q]?=some (quO k kv val wd ft id (n:Int) fa b1 (.slice (some ⟨yb,0,none⟩) kn kn) (.slice (some ⟨vb,0,none⟩) kn kn))∧((((((w.setCell ⟨q,6,none⟩ (.int .i64 (n:Int))).setCell ⟨q,8,none⟩ (.bool b1)).setCell ⟨yb,i,none⟩ (.bool b2)).setCell ⟨vb,i,none⟩ (.string r.val)).alloc O)).heap[yb]?=some (.cells (Zy.set! i (.bool b2)) 4 (0,0))∧((((((w.setCell ⟨q,6,none⟩ (.int .i64 (n:Int))).setCell ⟨q,8,none⟩ (.bool b1)).setCell ⟨yb,i,none⟩ (.bool b2)).setCell ⟨vb,i,none⟩ (.string r.val)).alloc O)).heap[vb]?=some (.cells (Zv.set! i (.string r.val)) 9 (0,0))∧Chg [q,yb,vb] w ((((((w.setCell ⟨q,6,none⟩ (.int .i64 (n:Int))).setCell ⟨q,8,none⟩ (.bool b1)).setCell ⟨yb,i,none⟩ (.bool b2)).setCell ⟨vb,i,none⟩ (.string r.val)).alloc O))):=fun O b1 b2=>by
  refine⟨hs_alloc (hs_set (hs_set ((blkSet (i:=8) (blkSet (i:=6) h _) _).trans rfl) qy) qv) O,hs_alloc (hs_set (blkSet (i:=i) (hs_set (hs_set hy yq) yq) _) yv) O,hs_alloc (blkSet (i:=i) (hs_set (hs_set (hs_set hv vq) vq) vy) _) O,?_⟩;exact(((((Chg.refl [q,yb,vb] w).set (.inl (by simp)) _).set (.inl (by simp)) _).set (.inl (by simp)) _).set (.inl (by simp)) _).trans (Chg.of_below (M:=[]) ((Below.refl _ _).alloc (Nat.le_refl _) O)) (fun b hb=>by cases hb)
 obtain⟨st,rid,rv,used⟩:=r;simp only at hst HF⊢;unfold replyV;clear h hy hv hy0 hv0;have hi':(i:Int)<(kn:Int):=by omega
 cases re with
 |false=>
  rcases hst with rfl|rfl|rfl;all_goals
   go_enter Tryz.func135,Tryz.ntmps135
   go_wp2
   go_region
   go_wp2
   go_region
   go_wp2
   go_end0
   refine⟨rfl,(HF.out _ _ _).1,(HF.out _ _ _).2.1,(HF.out _ _ _).2.2.1,?_⟩
   first|exact(HF.out _ _ _).2.2.2.drew.drew|exact(HF.out _ _ _).2.2.2.drew|exact(HF.out _ _ _).2.2.2
 |true=>
  rcases hst with rfl|rfl|rfl;all_goals
   go_enter Tryz.func135,Tryz.ntmps135
   go_wp2
   go_region
   go_wp2
   go_region
   go_wp2
   go_end0
   refine⟨rfl,(HF.out _ _ _).1,(HF.out _ _ _).2.1,(HF.out _ _ _).2.2.1,?_⟩
   first|exact(HF.out _ _ _).2.2.2.drew.drew|exact(HF.out _ _ _).2.2.2.drew|exact(HF.out _ _ _).2.2.2
def mayB (k:Int)(r:Reply):Bool:=(decide (k=1)&&decide (r.st=0)) || r.val.toList.isEmpty
theorem mayBe_any (C q i:Nat)(k:Int)(kv:Value)(val wd:ByteArray)(ft:Bool)(id n:Int)(fa re:Bool)(yv vv:Value)(r:Reply)(w:World)(h:w.heap[q]?=some (quO k kv val wd ft id n fa re yv vv)):Calls Tryz.prog 134 #[.agg #[.pointer (some ⟨C,0,none⟩),.pointer (some ⟨q,0,none⟩),.int .i64 (i:Int)],replyV r] w fun e w'=>e= .returned (.bool (mayB k r))∧Below w.heap.size w w':=by
 obtain⟨c0,_,_,_,_,_,_⟩:=quCells h;have hlt:=blkLt h;have HB2:=hide' (show∀x y,Below w.heap.size w ((w.alloc x).alloc y)from fun x y=>((Below.refl _ _).alloc (Nat.le_refl _) _).alloc (by simp) _);obtain⟨st,rid,rv,used⟩:=r;unfold replyV mayB;simp only
 clear h;have hl1:q<w.heap.size+1:=by omega
 have hn1:¬q=w.heap.size:=by omega
 have hn2:¬q=w.heap.size+1:=by omega
 by_cases hk:k=1
 ·subst hk;by_cases hs:st=0
  ·subst hs;go_enter Tryz.func134,Tryz.ntmps134;go_wp2;go_ret;exact⟨by simp,HB2.out _ _⟩
  ·have hs':¬(st:Int)=0:=by omega
   go_enter Tryz.func134,Tryz.ntmps134;go_wp2;all_goals go_ret
   all_goals exact⟨by simp[*],HB2.out _ _⟩
 ·go_enter Tryz.func134,Tryz.ntmps134;go_wp2;all_goals go_ret
  all_goals exact⟨by simp[*],HB2.out _ _⟩
set_option maxHeartbeats 2000000
set_option maxRecDepth 100000
def downB:ByteArray:=⟨#[100,111,119,110]⟩
def refusedB:ByteArray:=⟨#[114,101,102,117,115,101,100]⟩
def ansOf (k:Int)(fa re y0:Bool)(yv vv:Value):Value:=
 if fa then ansV 5 (.slice none 0 0) (.slice none 0 0) downB else if re then ansV 5 (.slice none 0 0) (.slice none 0 0) refusedB
 else if k=1 then ansV 1 yv vv ⟨#[]⟩else if k=2 then ansV 2 (.slice none 0 0) (.slice none 0 0) ⟨#[]⟩
 else if y0 then ansV 3 (.slice none 0 0) (.slice none 0 0) ⟨#[]⟩else ansV 4 (.slice none 0 0) (.slice none 0 0) ⟨#[]⟩
theorem qanswer_any (q yb kn:Nat)(k:Int)(kv:Value)(val wd:ByteArray)(ft:Bool)(id n:Int)(fa re y0:Bool)(vv:Value)(w:World)(h:w.heap[q]?=some (quO k kv val wd ft id n fa re (.slice (some ⟨yb,0,none⟩) kn kn) vv))(hv:∃va vn vc,vv= .slice va vn vc)(hk:k=1∨k=2∨k=3)(hkn:0<kn)(hkm:kn≤1000)(hy:w.cell? ⟨yb,0,none⟩=some (.bool y0)):Calls Tryz.prog 129 #[.pointer (some ⟨q,0,none⟩)] w fun e w'=>e= .returned (ansOf k fa re y0 (.slice (some ⟨yb,0,none⟩) kn kn) vv)∧Below w.heap.size w w':=by
 obtain⟨va,vn,vc,rfl⟩:=hv;obtain⟨c0,_,c7,c8,c9,c10,_⟩:=quCells h;have hlt:=blkLt h;have hly:yb<w.heap.size:=World.block_lt_of_cell? w ⟨yb,0,none⟩ hy;have HB:Hid (∀x,Below w.heap.size w (w.alloc x)):=fun x=>(Below.refl _ _).alloc (Nat.le_refl _) x
 have hn1:¬q=w.heap.size:=by omega
 have hn2:¬yb=w.heap.size:=by omega
 have hkn':(0:Int)<(kn:Int):=by omega
 unfold ansOf ansV downB refusedB;clear h;rcases hk with rfl|rfl|rfl;all_goals cases fa
 all_goals cases re
 all_goals cases y0
 all_goals
  go_enter Tryz.func129,Tryz.ntmps129
  go_wp2
  first
   |go_region
    go_wp2
   |skip
  refine bodyPost_ret (v:=_) (by simp[results,Tryz.results129,go_sem];rfl) rfl ⟨by simp,?_⟩
  first|exact HB.out _|exact(HB.out _).drew
end Go.Proofs.YtlonjggfnleolaaGreatDoor
