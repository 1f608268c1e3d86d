import Derived.Test.YtlonjggfnleolaaGreatDoorDecode
import Derived.Lib.FrozenHead
import Derived.Lib.Builder
import Derived.Shelf.Strings.BuilderX
import Derived.Laws.MakeOwn
import Derived.MapKept
import Derived.Maps.RangeRun
namespace Go.Proofs.YtlonjggfnleolaaGreatDoor
open Go.RowKit Go.Shelf
set_option linter.unusedVariables false
set_option maxHeartbeats 1000000
set_option maxRecDepth 100000
variable {M M':List Nat}{w w' a b:World}
structure Chg (M:List Nat)(w w':World):Prop where
 os:w'.os=w.os
 tape:w'.tape=w.tape
 output:w'.output=w.output
 size:w.heap.size≤w'.heap.size
 block:∀k,k<w.heap.size→k∉M→w'.heap[k]?=w.heap[k]?
theorem Chg.refl (M:List Nat)(w:World):Chg M w w:=⟨rfl,rfl,rfl,Nat.le_refl _,fun _ _ _=>rfl⟩
theorem Chg.of_below (h:Below w.heap.size w w'):Chg M w w':=⟨h.os,h.tape,h.output,h.size,fun k hk _=>h.block k hk⟩
theorem Chg.drew (h:Chg M w w'):Chg M w w'.drew:=⟨h.os,h.tape,h.output,h.size,h.block⟩
theorem Chg.undrew (h:Chg M w.drew w'):Chg M w w':=⟨h.os,h.tape,h.output,h.size,h.block⟩
def Later (w:World)(M M':List Nat):Prop:=∀b∈M',b∈M∨w.heap.size≤b
theorem Later.refl (w:World)(M:List Nat):Later w M M:=fun b h=> .inl h
theorem Later.trans {M'':List Nat}(h:Later w M M')(k:Later w' M' M'')(hs:w.heap.size≤w'.heap.size):Later w M M'':=fun b hb=>by
 rcases k b hb with h1|h1
 ·exact h b h1
 ·exact .inr (Nat.le_trans hs h1)
theorem Chg.trans {c:World}(h:Chg M a b)(k:Chg M' b c)(hl:Later a M M'):Chg M a c:=
 ⟨k.os.trans h.os,k.tape.trans h.tape,k.output.trans h.output,Nat.le_trans h.size k.size,fun i hi hn=>(k.block i (Nat.lt_of_lt_of_le hi h.size) (fun hm=>by
  rcases hl i hm with h1|h1
  ·exact hn h1
  ·omega)).trans (h.block i hi hn)⟩
theorem Chg.more (h:Chg M a b)(hm:∀x∈M,x∈M'):Chg M' a b:=
 ⟨h.os,h.tape,h.output,h.size,fun k hk hn=>h.block k hk (fun hh=>hn (hm k hh))⟩
theorem Chg.keep (h:Chg M a b){k:Nat}{o:Obj}(hk:a.heap[k]?=some o)(hn:k∉M):b.heap[k]?=some o:=(h.block k (blkLt hk) hn).trans hk
theorem Chg.set (h:Chg M a w){p:Addr}(hp:p.block∈M∨a.heap.size≤p.block)(v:Value):Chg M a (w.setCell p v):=by
 have sb:Below 0 w (w.setCell p v):=(Below.refl 0 w).setCell (p:=p) (Nat.zero_le _) _;exact⟨sb.os.trans h.os,sb.tape.trans h.tape,sb.output.trans h.output,Nat.le_trans h.size sb.size,fun k hk hn=>(Below.heap_setCell w p v k (fun e=>by
  rcases hp with hp|hp
  ·exact hn (e▸hp)
  ·omega)).trans (h.block k hk hn)⟩
theorem Chg.grown {row:Option Nat}(h:Chg M a w)(hg:w.grownBy w' row)(hr:∀b,row=some b→b∈M∨a.heap.size≤b):Chg M a w':=
 ⟨hg.os.trans h.os,hg.tape.trans h.tape,hg.output.trans h.output,Nat.le_trans h.size hg.size,fun k hk hn=>(hg.block k (Nat.lt_of_lt_of_le hk h.size) (fun e=>by
  rcases hr k e.symm with h1|h1
  ·exact hn h1
  ·omega)).trans (h.block k hk hn)⟩
theorem shapeOf {b T n:Nat}{Z:Array Value}{f:Nat×Nat}(h:w.heap[b]?=some (.cells Z T f))(hn:Z.size=n):w.shape? b=some (T,n):=by simp[World.shape?,h,hn]
theorem info123:(Tryz.prog.info? 123).map (·.size)=some 2:=by kernel_rfl
theorem bld_check_used (b o:Nat)(w:World)(h0:w.cell? ⟨b,o,none⟩=some (.pointer (some ⟨b,o,none⟩))):Calls Tryz.prog 159 #[.pointer (some ⟨b,o,none⟩)] w fun e w'=>e= .returned (.tuple #[])∧w'=w:=by
 obtain⟨j,hj,hjs⟩:=Option.map_eq_some_iff.1 info123;have hlt:=World.block_lt_of_cell? w ⟨b,o,none⟩ h0;go_enter Tryz.func159,Tryz.ntmps159;go_wp2;rw[Lib.run_neq_ptr_same w _ Tryz.underlying121 hj];go_wp2;go_end0;exact⟨rfl,rfl⟩
theorem bld_check_fresh (b o T n:Nat)(Z:Array Value)(w:World)(hb:w.heap[b]?=some (.cells Z T (0,0)))(hn:Z.size=n)(ho:o<n)(hlies:liesAt Tryz.prog Tryz.prog.depth T (n / Tryz.prog.cellsOf T) o 123 1=true)(h0:Z[o]?=some (.pointer none)):Calls Tryz.prog 159 #[.pointer (some ⟨b,o,none⟩)] w fun e w'=>e= .returned (.tuple #[])∧w'=w.setCell ⟨b,o,none⟩ (.pointer (some ⟨b,o,none⟩)):=by
 obtain⟨j,hj,hjs⟩:=Option.map_eq_some_iff.1 info123;have hsh:=shapeOf hb hn;have hc:w.cell? ⟨b,o,none⟩=some (.pointer none):=(blkCell hb o).trans h0;have hf:=blkFree hb o;have hlt:=blkLt hb;go_enter Tryz.func159,Tryz.ntmps159;go_wp2;rw[Lib.run_to_unsafe w ⟨b,o,none⟩ Tryz.underlying121 Tryz.underlying269 hj (by rw[hjs];decide) hsh ho];simp only[Result.andThen]
 rw[Oper.upon_value];go_wp2;rw[run_callFunc_extern Tryz.func169 (by kernel_rfl) (by kernel_rfl) (by kernel_rfl) (e:=Extern.AbiNoEscape.same) (by kernel_rfl)];rw[Lib.run_noEscape];simp only[Result.andThen]
 rw[Oper.upon_value];go_wp2;rw[Lib.run_from_unsafe w ⟨b,o,none⟩ Tryz.underlying269 Tryz.underlying121 hj hsh hlies];simp only[Result.andThen]
 rw[Oper.upon_value];go_wp2;go_end0;exact⟨rfl,rfl⟩
set_option maxHeartbeats 1000000
set_option maxRecDepth 100000
theorem made_one (z:Value)(n:Nat):madeCells #[z] n=Array.replicate n z:=by
 apply Array.ext_getElem?;intro i;unfold madeCells;by_cases h:i<n
 ·have h1:i % 1=0:=Nat.mod_one i;simp[h,h1]
 ·simp[h]
theorem info4:∃i,Tryz.prog.info? 4=some i∧i.zero=some (.bool false)∧i.size=1∧i.bytes=1:=by
 have h:(Tryz.prog.info? 4).map (fun i=>(i.zero,i.size,i.bytes))=some (some (.bool false),1,1):=by kernel_rfl
 obtain⟨i,hi,h0⟩:=Option.map_eq_some_iff.1 h;simp at h0;exact⟨i,hi,h0.1,h0.2.1,h0.2.2⟩
theorem info9s:∃i,Tryz.prog.info? 9=some i∧i.zero=some (.string ⟨#[]⟩)∧i.size=1∧i.bytes=16:=by
 have h:(Tryz.prog.info? 9).map (fun i=>(i.zero,i.size,i.bytes))=some (some (.string ⟨#[]⟩),1,16):=by kernel_rfl
 obtain⟨i,hi,h0⟩:=Option.map_eq_some_iff.1 h;simp at h0;exact⟨i,hi,h0.1,h0.2.1,h0.2.2⟩
theorem mk89 (n:Nat)(h:n≤1000000)(w:World):(Instr.makeSlice 89 (.int .i64 n) (.int .i64 n)).run Tryz.prog w= .ok (.slice (some ⟨w.heap.size,0,none⟩) n n) (w.alloc (.cells (Array.replicate n (.bool false)) 4)):=by
 obtain⟨i,hi,hz,hs,hb⟩:=info4;have:=run_makeSlice (P:=Tryz.prog) w 89 4 i _ Tryz.underlying89 hi hz .i64 .i64 n n (by omega) (by omega) (by rw[hs];simp;omega) (by rw[hb];omega) (by omega);rw[this,hs];simp[Value.cells,made_one]
theorem mk34 (n:Nat)(h:n≤1000000)(w:World):(Instr.makeSlice 34 (.int .i64 n) (.int .i64 n)).run Tryz.prog w= .ok (.slice (some ⟨w.heap.size,0,none⟩) n n) (w.alloc (.cells (Array.replicate n (.string ⟨#[]⟩)) 9)):=by
 obtain⟨i,hi,hz,hs,hb⟩:=info9s;have:=run_makeSlice (P:=Tryz.prog) w 34 9 i _ Tryz.underlying34 hi hz .i64 .i64 n n (by omega) (by omega) (by rw[hs];simp;omega) (by rw[hb];omega) (by omega);rw[this,hs];simp[Value.cells,made_one]
theorem alloc4 (w:World)(A B C D:Obj):((((w.alloc A).alloc B).alloc C).alloc D).heap[w.heap.size+1]?=some B∧((((w.alloc A).alloc B).alloc C).alloc D).heap[w.heap.size+1+1]?=some C∧((((w.alloc A).alloc B).alloc C).alloc D).heap[w.heap.size+1+1+1]?=some D∧Below w.heap.size w ((((w.alloc A).alloc B).alloc C).alloc D):=by
 have s1:(w.alloc A).heap.size=w.heap.size+1:=World.size_alloc _ _;have s2:((w.alloc A).alloc B).heap.size=w.heap.size+1+1:=by rw[World.size_alloc,s1]
 have s3:(((w.alloc A).alloc B).alloc C).heap.size=w.heap.size+1+1+1:=by rw[World.size_alloc,s2]
 have b:=blkNew (w.alloc A) B;have c:=blkNew ((w.alloc A).alloc B) C;have d:=blkNew (((w.alloc A).alloc B).alloc C) D;rw[s1]at b;rw[s2]at c;rw[s3]at d;refine⟨?_,?_,d,((((Below.refl _ w).alloc (Nat.le_refl _) _).alloc (by omega) _).alloc (by omega) _).alloc (by omega) _⟩
 ·rw[Below.heap_alloc _ _ _ (by omega),Below.heap_alloc _ _ _ (by omega),b]
 ·rw[Below.heap_alloc _ _ _ (by omega),c]
def quO (k:Int)(kv:Value)(val wd:ByteArray)(ft:Bool)(id:Int)(n:Int)(fa re:Bool)(yv vv:Value):Obj:= .cells #[.int .i64 k,kv,.string val,.string wd,.bool ft,.int .i64 id,.int .i64 n,.bool fa,.bool re,yv,vv] 216 (0,0)
theorem newQuestion_any (k:Int)(ka:Option Addr)(kn kc:Nat)(val wd:ByteArray)(ft:Bool)(id:Int)(w:World)(hk:kn≤1000000):Calls Tryz.prog 131 #[.agg #[.int .i64 k,.slice ka kn kc,.string val,.string wd,.bool ft,.int .i64 id]] w fun e w'=>∃(q yb vb:Nat),e= .returned (.pointer (some ⟨q,0,none⟩))∧w'.heap[q]?=some (quO k (.slice ka kn kc) val wd ft id kn false false (.slice (some ⟨yb,0,none⟩) kn kn) (.slice (some ⟨vb,0,none⟩) kn kn))∧w'.heap[yb]?=some (.cells (Array.replicate kn (.bool false)) 4 (0,0))∧w'.heap[vb]?=some (.cells (Array.replicate kn (.string ⟨#[]⟩)) 9 (0,0))∧w.heap.size≤q∧w.heap.size≤yb∧w.heap.size≤vb∧Below w.heap.size w w':=by
 have mixed:Tryz.prog.follows .mixedOrders=true:=by kernel_rfl
 have m1:=mk89 kn hk;have m2:=mk34 kn hk;have H4:=hide' (alloc4 w);go_enter Tryz.func131,Tryz.ntmps131;go_wp2;go_region
 all_goals go_wp2
 ·go_ret;obtain⟨h1,h2,h3,h4⟩:=H4.out (.cells #[.int .i64 k,.slice ka kn kc,.string val,.string wd,.bool ft,.int .i64 id] 36) (.cells (Array.replicate kn (.bool false)) 4) (.cells (Array.replicate kn (.string ⟨#[]⟩)) 9) (quO k (.slice ka kn kc) val wd ft id kn false false (.slice (some ⟨w.heap.size+1,0,none⟩) kn kn) (.slice (some ⟨w.heap.size+1+1,0,none⟩) kn kn));exact⟨w.heap.size+1+1+1,w.heap.size+1,w.heap.size+1+1,rfl,h3,h1,h2,by omega,by omega,by omega,h4.drew⟩
 ·go_ret;obtain⟨h1,h2,h3,h4⟩:=H4.out (.cells #[.int .i64 k,.slice ka kn kc,.string val,.string wd,.bool ft,.int .i64 id] 36) (.cells (Array.replicate kn (.string ⟨#[]⟩)) 9) (.cells (Array.replicate kn (.bool false)) 4) (quO k (.slice ka kn kc) val wd ft id kn false false (.slice (some ⟨w.heap.size+1+1,0,none⟩) kn kn) (.slice (some ⟨w.heap.size+1,0,none⟩) kn kn));exact⟨w.heap.size+1+1+1,w.heap.size+1+1,w.heap.size+1,rfl,h3,h2,h1,by omega,by omega,by omega,h4.drew⟩
variable {w:World}{m:Nat}{l:List (Nat×Value)}
def MapAt (w:World)(m:Nat)(l:List (Nat×Value)):Prop:=∃es clock,w.heap[m]?=some (.map es clock)∧es.toList.map (fun e=>(e.key,e.val))=l.map (fun p=>(Value.int .u16 (p.1:Int),p.2))
theorem MapAt.other {w':World}(h:MapAt w m l)(k:w'.heap[m]?=w.heap[m]?):MapAt w' m l:=by
 obtain⟨es,clock,h1,h2⟩:=h;exact⟨es,clock,k.trans h1,h2⟩
theorem MapAt.lt (h:MapAt w m l):m<w.heap.size:=by
 obtain⟨es,clock,h1,h2⟩:=h;exact blkLt h1
theorem find_none (k:Nat):∀(es:List MapEntry) (l:List (Nat×Value)) (i:Nat),es.map (fun e=>(e.key,e.val))=l.map (fun p=>(Value.int .u16 (p.1:Int),p.2))→(∀p∈l,p.1≠k)→Instr.findNow (.int .u16) (.int .u16 (k:Int)) es i=some none:=by
 intro es;induction es with
 |nil=>intro l i _ _;rfl
 |cons e es ih=>
  intro l i h hk;cases l with
  |nil=>simp at h
  |cons p l=>
   simp only[List.map_cons,List.cons.injEq]at h;obtain⟨h1,h2⟩:=h;have hp:=hk p (by simp);have he:e.key= .int .u16 (p.1:Int):=congrArg Prod.fst h1;have hs:Instr.sameNow (.int .u16) (.int .u16 (k:Int)) e.key=some false:=by
    rw[he];have:((k:Int)==(p.1:Int))=false:=by simp;omega
    simp[Instr.sameNow,this]
   unfold Instr.findNow;rw[hs];exact ih l (i+1) h2 (fun q hq=>hk q (by simp[hq]))
theorem find_some (k:Nat):∀(es:List MapEntry) (l:List (Nat×Value)) (i:Nat),es.map (fun e=>(e.key,e.val))=l.map (fun p=>(Value.int .u16 (p.1:Int),p.2))→(∃p∈l,p.1=k)→∃j p,p∈l∧p.1=k∧Instr.findNow (.int .u16) (.int .u16 (k:Int)) es i=some (some (j,p.2)):=by
 intro es;induction es with
 |nil=>intro l i h hk;cases l with
  |nil=>obtain⟨p,hp,_⟩:=hk;cases hp
  |cons p l=>simp at h
 |cons e es ih=>
  intro l i h hk;cases l with
  |nil=>simp at h
  |cons p l=>
   simp only[List.map_cons,List.cons.injEq]at h;obtain⟨h1,h2⟩:=h;have he:e.key= .int .u16 (p.1:Int):=congrArg Prod.fst h1;have hv:e.val=p.2:=congrArg Prod.snd h1;by_cases hp:p.1=k
   ·refine⟨i,p,by simp,hp,?_⟩;have hs:Instr.sameNow (.int .u16) (.int .u16 (k:Int)) e.key=some true:=by
     rw[he,hp];simp[Instr.sameNow]
    unfold Instr.findNow;rw[hs,hv]
   ·have hs:Instr.sameNow (.int .u16) (.int .u16 (k:Int)) e.key=some false:=by
     rw[he];have:((k:Int)==(p.1:Int))=false:=by simp;omega
     simp[Instr.sameNow,this]
    obtain⟨q,hq,hqk⟩:=hk;have hql:q∈l:=by
     rcases List.mem_cons.1 hq with rfl|h
     ·exact absurd hqk hp
     ·exact h
    obtain⟨j,p',hp',hpk',hf⟩:=ih l (i+1) h2 ⟨q,hql,hqk⟩;refine⟨j,p',by simp[hp'],hpk',?_⟩;unfold Instr.findNow;rw[hs];exact hf
def zPart:Value:= .agg #[.pointer none,.pointer none,.int .i64 0]
theorem run_lookup_no (w:World)(m k:Nat)(l:List (Nat×Value))(h:MapAt w m l)(hk:∀p∈l,p.1≠k):(Instr.lookup 141 (.map (some m)) (.int .u16 (k:Int)) true).run Tryz.prog w= .ok (.tuple #[zPart,.bool false]) w:=by
 obtain⟨es,clock,h1,h2⟩:=h;have hf:=find_none k es.toList l 0 h2 hk;simp[Instr.lookup,run_underlying Tryz.underlying141,MapKept.run_getObj_map h1,MapKept.run_checkKey Tryz.underlying140 (show MapKept.IsKey (.int .u16) (.int .u16 (k:Int))from rfl),MapKept.run_findKey Tryz.underlying140 hf,Result.andThen];rfl
theorem run_lookup_yes (w:World)(m k:Nat)(l:List (Nat×Value))(h:MapAt w m l)(hk:∃p∈l,p.1=k):∃p,p∈l∧p.1=k∧(Instr.lookup 141 (.map (some m)) (.int .u16 (k:Int)) true).run Tryz.prog w= .ok (.tuple #[p.2,.bool true]) w:=by
 obtain⟨es,clock,h1,h2⟩:=h;obtain⟨j,p,hp,hpk,hf⟩:=find_some k es.toList l 0 h2 hk;refine⟨p,hp,hpk,?_⟩;simp[Instr.lookup,run_underlying Tryz.underlying141,MapKept.run_getObj_map h1,MapKept.run_checkKey Tryz.underlying140 (show MapKept.IsKey (.int .u16) (.int .u16 (k:Int))from rfl),MapKept.run_findKey Tryz.underlying140 hf,Result.andThen]
set_option maxHeartbeats 2000000
set_option maxRecDepth 100000
def svO (dn:Bool)(nx m:Nat)(iv:Value)(iu:Int)(ip ic:Bool)(bp bv:Value):Obj:= .cells #[.bool dn,.int .u16 (nx:Int),.map (some m),iv,.int .i64 iu,.bool ip,.bool ic,bp,bv] 143 (0,0)
theorem svCells {w:World}{S:Nat}{dn:Bool}{nx m:Nat}{iv:Value}{iu:Int}{ip ic:Bool}{bp bv:Value}(h:w.heap[S]?=some (svO dn nx m iv iu ip ic bp bv)):w.cell? ⟨S,0,none⟩=some (.bool dn)∧w.cell? ⟨S,1,none⟩=some (.int .u16 (nx:Int))∧w.cell? ⟨S,2,none⟩=some (.map (some m))∧w.cell? ⟨S,7,none⟩=some bp∧w.cell? ⟨S,8,none⟩=some bv∧∀j,w.frozen? ⟨S,j,none⟩=false:=
 ⟨blkCell h 0,blkCell h 1,blkCell h 2,blkCell h 7,blkCell h 8,blkFree h⟩
theorem wrap16 (n:Nat):IntKind.u16.wrap ((n:Int)+1)=(((n+1) % 65536:Nat):Int):=by
 have h:IntKind.u16.wrap ((n:Int)+1)=((n:Int)+1) % 65536:=by simp[IntKind.wrap,IntKind.bits,IntKind.signed]
 rw[h];omega
def partV (C q:Nat)(i:Int):Value:= .agg #[.pointer (some ⟨C,0,none⟩),.pointer (some ⟨q,0,none⟩),.int .i64 i]
theorem freeID_any (S nx m j0:Nat)(dn:Bool)(iv:Value)(iu:Int)(ip ic:Bool)(bp bv:Value)(l:List (Nat×Value))(w:World)(hS:w.heap[S]?=some (svO dn nx m iv iu ip ic bp bv))(hnx:nx<65536)(hm:MapAt w m l)(hv:∀p∈l,∃C q i,p.2=partV C q i)(hk:∀p∈l,p.1≠(nx+j0) % 65536)(hy:∀j,j<j0→∃p∈l,p.1=(nx+j) % 65536):Calls Tryz.prog 160 #[.pointer (some ⟨S,0,none⟩)] w fun e w'=>e= .returned (.int .u16 (((nx+j0) % 65536:Nat):Int))∧w'.heap[S]?=some (svO dn ((nx+j0+1) % 65536) m iv iu ip ic bp bv)∧Chg [S] w w':=by
 have hmS:m≠S:=fun e=>by
  obtain⟨es,clock,h1,_⟩:=hm;rw[e,hS]at h1;unfold svO at h1;cases h1
 have HS:=hide' (And.intro hS (And.intro hm (And.intro hk (And.intro hmS (And.intro hv (And.intro hy hnx))))));have h0:(nx+0) % 65536=nx:=by omega
 clear hS hm hk hv hy;go_enter Tryz.func160,Tryz.ntmps160;go_wp2_with fail
 go_loopw [3,4,5] (fun _ _ _ wr=>∃j:Nat,j≤j0∧wr.heap.size=w.heap.size+j∧Hid (wr.heap[S]?=some (svO dn ((nx+j) % 65536) m iv iu ip ic bp bv)∧Chg [S] w wr)) (fun _ _ _ wr=>w.heap.size+j0-wr.heap.size)
 case atStart=>exact⟨0,Nat.zero_le _,rfl,by rw[h0];exact HS.out.1,Chg.refl _ _⟩
 case round=>
  obtain⟨j,hj,hsz,HJ⟩:=hrel;obtain⟨c0,c1,c2,c7,c8,cf⟩:=svCells HJ.out.1;have cf1:=cf 1;have hlt:=blkLt HJ.out.1;have hw:=wrap16 ((nx+j) % 65536);have hS1:=blkSet (i:=1) HJ.out.1 (.int .u16 (((((nx+j) % 65536)+1) % 65536:Nat):Int));have hm1:MapAt (wr.setCell ⟨S,1,none⟩ (.int .u16 (((((nx+j) % 65536)+1) % 65536:Nat):Int))) m l:=(HS.out.2.1.other (HJ.out.2.block m HS.out.2.1.lt (by simpa using HS.out.2.2.2.1))).other (Below.heap_setCell wr ⟨S,1,none⟩ _ m HS.out.2.2.2.1);have k1:=HJ.out.2.set (p:=⟨S,1,none⟩) (.inl (by simp)) (.int .u16 (((((nx+j) % 65536)+1) % 65536:Nat):Int));have hs1:(wr.setCell ⟨S,1,none⟩ (.int .u16 (((((nx+j) % 65536)+1) % 65536:Nat):Int))).heap.size=wr.heap.size:=by simp
  have he:((nx+j) % 65536+1) % 65536=(nx+(j+1)) % 65536:=by omega
  rw[he]at hw hS1 hm1 k1 hs1;have H1:=hide' (And.intro hS1 (And.intro hm1 k1));clear hS1 hm1 k1 cf c0 c7 c8 he;obtain⟨id2,hid2⟩:∃id2,(nx+(j+1)) % 65536=id2:=⟨_,rfl⟩
  obtain⟨id,hid⟩:∃id,(nx+j) % 65536=id:=⟨_,rfl⟩
  rw[hid2]at hw hs1 H1;rw[hid]at c1 hw;have HID:=hide' (And.intro hid hid2);clear hid hid2;go_upto_region 3 with fail
  have e2:=(svCells H1.out.1).2.2.1;have hlt1:=blkLt H1.out.1;generalize wr.setCell ⟨S,1,none⟩ (.int .u16 (id2:Int))=w1 at*;by_cases hjj:j=j0
  ·have hlook:=run_lookup_no w1 m id l H1.out.2.1 (fun p hp=>by rw[←HID.out.1,hjj];exact HS.out.2.2.1 p hp);unfold zPart at hlook;go_wp2;go_ret;have hb:∀o,Below w1.heap.size w1 (w1.alloc o):=fun o=>(Below.refl _ _).alloc (Nat.le_refl _) o
   obtain⟨q1,q2,q3⟩:=H1.out;obtain⟨r1,r2⟩:=HID.out;rw[hjj]at r1;have r3:(nx+j0+1) % 65536=id2:=by omega
   rw[r1,r3];exact⟨rfl,((hb _).block S (blkLt q1)).trans q1,q3.trans (Chg.of_below (M:=[]) (hb _)) (fun b hm=>by cases hm)⟩
  ·have hlt0:j<j0:=by omega
   obtain⟨p,hp,hpk,hlook⟩:=run_lookup_yes w1 m id l H1.out.2.1 (by rw[←HID.out.1];exact HS.out.2.2.2.2.2.1 j hlt0);obtain⟨pC,pq,pi,hpv⟩:=HS.out.2.2.2.2.1 p hp;rw[hpv]at hlook;unfold partV at hlook;clear hpv hp hpk;go_wp2;have hb:∀o,Below w1.heap.size w1 (w1.alloc o):=fun o=>(Below.refl _ _).alloc (Nat.le_refl _) o
   obtain⟨q1,q2,q3⟩:=H1.out;obtain⟨r1,r2⟩:=HID.out;refine⟨⟨j+1,by omega,by rw[World.size_alloc];omega,?_,q3.trans (Chg.of_below (M:=[]) (hb _)) (fun b hm=>by cases hm)⟩,?_⟩
   ·rw[r2];exact((hb _).block S (blkLt q1)).trans q1
   ·rw[World.size_alloc];omega
variable {w:World}{m:Nat}{l:List (Nat×Value)}
def MapS (w:World)(m:Nat)(l:List (Nat×Value)):Prop:=∃es clock,w.heap[m]?=some (.map es clock)∧es.toList.map (fun e=>(e.key,e.val))=l.map (fun p=>(Value.int .u16 (p.1:Int),p.2))∧(∀x∈es.toList,x.born<clock)∧(es.toList.map (·.born)).Nodup
theorem MapS.at_ (h:MapS w m l):MapAt w m l:=by
 obtain⟨es,clock,h1,h2,_⟩:=h;exact⟨es,clock,h1,h2⟩
theorem MapS.other {w':World}(h:MapS w m l)(k:w'.heap[m]?=w.heap[m]?):MapS w' m l:=by
 obtain⟨es,clock,h1,h2⟩:=h;exact⟨es,clock,k.trans h1,h2⟩
theorem MapS.lt (h:MapS w m l):m<w.heap.size:=h.at_.lt
theorem find_idx (k:Nat):∀(es:List MapEntry) (l:List (Nat×Value)) (i:Nat),es.map (fun e=>(e.key,e.val))=l.map (fun p=>(Value.int .u16 (p.1:Int),p.2))→(∃p∈l,p.1=k)→∃j p,l[j]?=some p∧p.1=k∧Instr.findNow (.int .u16) (.int .u16 (k:Int)) es i=some (some (i+j,p.2)):=by
 intro es;induction es with
 |nil=>intro l i h hk;cases l with
  |nil=>obtain⟨p,hp,_⟩:=hk;cases hp
  |cons p l=>simp at h
 |cons e es ih=>
  intro l i h hk;cases l with
  |nil=>simp at h
  |cons p l=>
   simp only[List.map_cons,List.cons.injEq]at h;obtain⟨h1,h2⟩:=h;have he:e.key= .int .u16 (p.1:Int):=congrArg Prod.fst h1;have hv:e.val=p.2:=congrArg Prod.snd h1;by_cases hp:p.1=k
   ·refine⟨0,p,rfl,hp,?_⟩;have hs:Instr.sameNow (.int .u16) (.int .u16 (k:Int)) e.key=some true:=by
     rw[he,hp];simp[Instr.sameNow]
    unfold Instr.findNow;rw[hs,hv];rfl
   ·have hs:Instr.sameNow (.int .u16) (.int .u16 (k:Int)) e.key=some false:=by
     rw[he];have:((k:Int)==(p.1:Int))=false:=by simp;omega
     simp[Instr.sameNow,this]
    obtain⟨q,hq,hqk⟩:=hk;have hql:q∈l:=by
     rcases List.mem_cons.1 hq with rfl|h
     ·exact absurd hqk hp
     ·exact h
    obtain⟨j,p',hp',hpk',hf⟩:=ih l (i+1) h2 ⟨q,hql,hqk⟩;refine⟨j+1,p',by simpa using hp',hpk',?_⟩;unfold Instr.findNow;rw[hs];rw[show i+(j+1)=i+1+j by omega];exact hf
theorem erase_map {α β:Type}(f:α→β):∀(l:List α) (j:Nat),(l.eraseIdx j).map f=(l.map f).eraseIdx j:=by
 intro l;induction l with
 |nil=>intro j;cases j<;>rfl
 |cons a l ih=>
  intro j;cases j with
  |zero=>rfl
  |succ j=>simp[ih]
theorem MapS.update (w:World)(m k:Nat)(v:Value)(l:List (Nat×Value))(h:MapS w m l)(hk:∀p∈l,p.1≠k):∃w',(Instr.mapUpdate 141 (.map (some m)) (.int .u16 (k:Int)) v).run Tryz.prog w= .ok () w'∧MapS w' m (l++[(k,v)])∧Chg [m] w w'∧w'.heap.size=w.heap.size:=by
 obtain⟨es,clock,h1,h2,h3,h4⟩:=h;have hf:=find_none k es.toList l 0 h2 hk;refine⟨{w with heap:=w.heap.setIfInBounds m (.map (es.push {key:= .int .u16 (k:Int),val:=v,born:=clock}) (clock+1))},?_,⟨es.push {key:= .int .u16 (k:Int),val:=v,born:=clock},clock+1,?_,?_,?_,?_⟩,?_,by simp⟩
 ·simp[Instr.mapUpdate,run_underlying Tryz.underlying141,MapKept.run_getObj_map h1,MapKept.run_checkKey Tryz.underlying140 (show MapKept.IsKey (.int .u16) (.int .u16 (k:Int))from rfl),MapKept.run_findKey Tryz.underlying140 hf,MapKept.run_setObj_map _ h1,Result.andThen]
 ·simp[blkLt h1]
 ·simp[h2]
 ·intro x hx;simp at hx;rcases hx with hx|hx
  ·have:=h3 x (by simpa using hx);omega
  ·rw[hx];exact Nat.lt_succ_self _
 ·rw[Array.toList_push,List.map_append];refine List.nodup_append.2 ⟨h4,by simp,fun a ha b hb e=>?_⟩;simp at hb;obtain⟨x,hx,e2⟩:=List.mem_map.1 ha;have:=h3 x hx;omega
 ·exact⟨rfl,rfl,rfl,by simp,fun b hb hn=>by simp only;rw[Array.getElem?_setIfInBounds_ne (fun e=>hn (by simp[e]))]⟩
theorem MapS.delete (w:World)(m k:Nat)(ty:TypeId)(l:List (Nat×Value))(h:MapS w m l)(hk:∃p∈l,p.1=k):∃w' v' j p,l[j]?=some p∧p.1=k∧(Builtin.delete_ #[141,140] ty #[.map (some m),.int .u16 (k:Int)]).run Tryz.prog w= .ok v' w'∧MapS w' m (l.eraseIdx j)∧Chg [m] w w'∧w'.heap.size=w.heap.size:=by
 obtain⟨es,clock,h1,h2,h3,h4⟩:=h;obtain⟨j,p,hj,hp,hf⟩:=find_idx k es.toList l 0 h2 hk;rw[Nat.zero_add]at hf;have hlen:es.size=l.length:=by have:=congrArg List.length h2;simpa using this
 have hjl:j<es.size:=by rw[hlen];exact(List.getElem?_eq_some_iff.1 hj).1
 have he:(es.eraseIdxIfInBounds j).toList=es.toList.eraseIdx j:=by
  unfold Array.eraseIdxIfInBounds;rw[dif_pos hjl];simp
 refine⟨{w with heap:=w.heap.setIfInBounds m (.map (es.eraseIdxIfInBounds j) clock)},.tuple #[],j,p,hj,hp,?_,⟨es.eraseIdxIfInBounds j,clock,?_,?_,?_,?_⟩,?_,by simp⟩
 ·simp[Builtin.delete_,run_underlying Tryz.underlying141,MapKept.run_getObj_map h1,MapKept.run_checkKey Tryz.underlying140 (show MapKept.IsKey (.int .u16) (.int .u16 (k:Int))from rfl),MapKept.run_findKey Tryz.underlying140 hf,MapKept.run_setObj_map _ h1,Result.andThen]
 ·simp[blkLt h1]
 ·rw[he,erase_map,h2,erase_map]
 ·intro x hx;rw[he]at hx;exact h3 x ((List.eraseIdx_sublist _ _).subset hx)
 ·rw[he,erase_map];exact List.Sublist.nodup (List.eraseIdx_sublist _ _) h4
 ·exact⟨rfl,rfl,rfl,by simp,fun b hb hn=>by simp only;rw[Array.getElem?_setIfInBounds_ne (fun e=>hn (by simp[e]))]⟩
theorem MapS.clear (w:World)(m:Nat)(ty:TypeId)(l:List (Nat×Value))(h:MapS w m l):∃w' v',(Builtin.clear_ #[141] ty #[.map (some m)]).run Tryz.prog w= .ok v' w'∧MapS w' m []∧Chg [m] w w'∧w'.heap.size=w.heap.size:=by
 obtain⟨es,clock,h1,h2,h3,h4⟩:=h;refine⟨{w with heap:=w.heap.setIfInBounds m (.map #[] clock)},.tuple #[],?_,⟨#[],clock,?_,rfl,by simp,by simp⟩,?_,by simp⟩
 ·simp[Builtin.clear_,run_underlying Tryz.underlying141,MapKept.run_getObj_map h1,MapKept.run_setObj_map _ h1,Result.andThen]
 ·simp[blkLt h1]
 ·exact⟨rfl,rfl,rfl,by simp,fun b hb hn=>by simp only;rw[Array.getElem?_setIfInBounds_ne (fun e=>hn (by simp[e]))]⟩
end Go.Proofs.YtlonjggfnleolaaGreatDoor
