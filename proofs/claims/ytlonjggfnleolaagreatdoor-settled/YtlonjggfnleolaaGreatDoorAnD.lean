import Derived.Test.YtlonjggfnleolaaGreatDoorRdrC
import Derived.Lib.FrozenHead
import Derived.Lib.Builder
import Derived.Shelf.Strings.BuilderX
import Derived.MapKept
namespace Go.Proofs.YtlonjggfnleolaaGreatDoor
open Go.RowKit Go.Shelf
set_option linter.unusedVariables false
set_option maxHeartbeats 1000000
set_option maxRecDepth 100000
variable {M M':List Nat}{w w' a b:World}
structure Chg (M:List Nat)(w w':World):Prop where
 os:w'.os=w.os
 tape:w'.tape=w.tape
 output:w'.output=w.output
 size:w.heap.size≤w'.heap.size
 block:∀k,k<w.heap.size→k∉M→w'.heap[k]?=w.heap[k]?
theorem Chg.refl (M:List Nat)(w:World):Chg M w w:=⟨rfl,rfl,rfl,Nat.le_refl _,fun _ _ _=>rfl⟩
theorem Chg.of_below (h:Below w.heap.size w w'):Chg M w w':=⟨h.os,h.tape,h.output,h.size,fun k hk _=>h.block k hk⟩
theorem Chg.drew (h:Chg M w w'):Chg M w w'.drew:=⟨h.os,h.tape,h.output,h.size,h.block⟩
theorem Chg.undrew (h:Chg M w.drew w'):Chg M w w':=⟨h.os,h.tape,h.output,h.size,h.block⟩
def Later (w:World)(M M':List Nat):Prop:=∀b∈M',b∈M∨w.heap.size≤b
theorem Later.refl (w:World)(M:List Nat):Later w M M:=fun b h=> .inl h
theorem Later.trans {M'':List Nat}(h:Later w M M')(k:Later w' M' M'')(hs:w.heap.size≤w'.heap.size):Later w M M'':=fun b hb=>by
 rcases k b hb with h1|h1
 ·exact h b h1
 ·exact .inr (Nat.le_trans hs h1)
theorem Chg.trans {c:World}(h:Chg M a b)(k:Chg M' b c)(hl:Later a M M'):Chg M a c:=
 ⟨k.os.trans h.os,k.tape.trans h.tape,k.output.trans h.output,Nat.le_trans h.size k.size,fun i hi hn=>(k.block i (Nat.lt_of_lt_of_le hi h.size) (fun hm=>by
  rcases hl i hm with h1|h1
  ·exact hn h1
  ·omega)).trans (h.block i hi hn)⟩
theorem Chg.more (h:Chg M a b)(hm:∀x∈M,x∈M'):Chg M' a b:=
 ⟨h.os,h.tape,h.output,h.size,fun k hk hn=>h.block k hk (fun hh=>hn (hm k hh))⟩
theorem Chg.keep (h:Chg M a b){k:Nat}{o:Obj}(hk:a.heap[k]?=some o)(hn:k∉M):b.heap[k]?=some o:=(h.block k (blkLt hk) hn).trans hk
theorem Chg.set (h:Chg M a w){p:Addr}(hp:p.block∈M∨a.heap.size≤p.block)(v:Value):Chg M a (w.setCell p v):=by
 have sb:Below 0 w (w.setCell p v):=(Below.refl 0 w).setCell (p:=p) (Nat.zero_le _) _;exact⟨sb.os.trans h.os,sb.tape.trans h.tape,sb.output.trans h.output,Nat.le_trans h.size sb.size,fun k hk hn=>(Below.heap_setCell w p v k (fun e=>by
  rcases hp with hp|hp
  ·exact hn (e▸hp)
  ·omega)).trans (h.block k hk hn)⟩
theorem Chg.grown {row:Option Nat}(h:Chg M a w)(hg:w.grownBy w' row)(hr:∀b,row=some b→b∈M∨a.heap.size≤b):Chg M a w':=
 ⟨hg.os.trans h.os,hg.tape.trans h.tape,hg.output.trans h.output,Nat.le_trans h.size hg.size,fun k hk hn=>(hg.block k (Nat.lt_of_lt_of_le hk h.size) (fun e=>by
  rcases hr k e.symm with h1|h1
  ·exact hn h1
  ·omega)).trans (h.block k hk hn)⟩
theorem shapeOf {b T n:Nat}{Z:Array Value}{f:Nat×Nat}(h:w.heap[b]?=some (.cells Z T f))(hn:Z.size=n):w.shape? b=some (T,n):=by simp[World.shape?,h,hn]
theorem info123:(Tryz.prog.info? 123).map (·.size)=some 2:=by kernel_rfl
theorem bld_check_used (b o:Nat)(w:World)(h0:w.cell? ⟨b,o,none⟩=some (.pointer (some ⟨b,o,none⟩))):Calls Tryz.prog 159 #[.pointer (some ⟨b,o,none⟩)] w fun e w'=>e= .returned (.tuple #[])∧w'=w:=by
 obtain⟨j,hj,hjs⟩:=Option.map_eq_some_iff.1 info123;have hlt:=World.block_lt_of_cell? w ⟨b,o,none⟩ h0;go_enter Tryz.func159,Tryz.ntmps159;go_wp2;rw[Lib.run_neq_ptr_same w _ Tryz.underlying121 hj];go_wp2;go_end0;exact⟨rfl,rfl⟩
theorem bld_check_fresh (b o T n:Nat)(Z:Array Value)(w:World)(hb:w.heap[b]?=some (.cells Z T (0,0)))(hn:Z.size=n)(ho:o<n)(hlies:liesAt Tryz.prog Tryz.prog.depth T (n / Tryz.prog.cellsOf T) o 123 1=true)(h0:Z[o]?=some (.pointer none)):Calls Tryz.prog 159 #[.pointer (some ⟨b,o,none⟩)] w fun e w'=>e= .returned (.tuple #[])∧w'=w.setCell ⟨b,o,none⟩ (.pointer (some ⟨b,o,none⟩)):=by
 obtain⟨j,hj,hjs⟩:=Option.map_eq_some_iff.1 info123;have hsh:=shapeOf hb hn;have hc:w.cell? ⟨b,o,none⟩=some (.pointer none):=(blkCell hb o).trans h0;have hf:=blkFree hb o;have hlt:=blkLt hb;go_enter Tryz.func159,Tryz.ntmps159;go_wp2;rw[Lib.run_to_unsafe w ⟨b,o,none⟩ Tryz.underlying121 Tryz.underlying269 hj (by rw[hjs];decide) hsh ho];simp only[Result.andThen]
 rw[Oper.upon_value];go_wp2;rw[run_callFunc_extern Tryz.func169 (by kernel_rfl) (by kernel_rfl) (by kernel_rfl) (e:=Extern.AbiNoEscape.same) (by kernel_rfl)];rw[Lib.run_noEscape];simp only[Result.andThen]
 rw[Oper.upon_value];go_wp2;rw[Lib.run_from_unsafe w ⟨b,o,none⟩ Tryz.underlying269 Tryz.underlying121 hj hsh hlies];simp only[Result.andThen]
 rw[Oper.upon_value];go_wp2;go_end0;exact⟨rfl,rfl⟩
variable {w:World}{m:Nat}{l:List (Nat×Value)}
def MapAt (w:World)(m:Nat)(l:List (Nat×Value)):Prop:=∃es clock,w.heap[m]?=some (.map es clock)∧es.toList.map (fun e=>(e.key,e.val))=l.map (fun p=>(Value.int .u16 (p.1:Int),p.2))
theorem MapAt.other {w':World}(h:MapAt w m l)(k:w'.heap[m]?=w.heap[m]?):MapAt w' m l:=by
 obtain⟨es,clock,h1,h2⟩:=h;exact⟨es,clock,k.trans h1,h2⟩
theorem MapAt.lt (h:MapAt w m l):m<w.heap.size:=by
 obtain⟨es,clock,h1,h2⟩:=h;exact blkLt h1
theorem find_none (k:Nat):∀(es:List MapEntry) (l:List (Nat×Value)) (i:Nat),es.map (fun e=>(e.key,e.val))=l.map (fun p=>(Value.int .u16 (p.1:Int),p.2))→(∀p∈l,p.1≠k)→Instr.findNow (.int .u16) (.int .u16 (k:Int)) es i=some none:=by
 intro es;induction es with
 |nil=>intro l i _ _;rfl
 |cons e es ih=>
  intro l i h hk;cases l with
  |nil=>simp at h
  |cons p l=>
   simp only[List.map_cons,List.cons.injEq]at h;obtain⟨h1,h2⟩:=h;have hp:=hk p (by simp);have he:e.key= .int .u16 (p.1:Int):=congrArg Prod.fst h1;have hs:Instr.sameNow (.int .u16) (.int .u16 (k:Int)) e.key=some false:=by
    rw[he];have:((k:Int)==(p.1:Int))=false:=by simp;omega
    simp[Instr.sameNow,this]
   unfold Instr.findNow;rw[hs];exact ih l (i+1) h2 (fun q hq=>hk q (by simp[hq]))
theorem find_some (k:Nat):∀(es:List MapEntry) (l:List (Nat×Value)) (i:Nat),es.map (fun e=>(e.key,e.val))=l.map (fun p=>(Value.int .u16 (p.1:Int),p.2))→(∃p∈l,p.1=k)→∃j p,p∈l∧p.1=k∧Instr.findNow (.int .u16) (.int .u16 (k:Int)) es i=some (some (j,p.2)):=by
 intro es;induction es with
 |nil=>intro l i h hk;cases l with
  |nil=>obtain⟨p,hp,_⟩:=hk;cases hp
  |cons p l=>simp at h
 |cons e es ih=>
  intro l i h hk;cases l with
  |nil=>simp at h
  |cons p l=>
   simp only[List.map_cons,List.cons.injEq]at h;obtain⟨h1,h2⟩:=h;have he:e.key= .int .u16 (p.1:Int):=congrArg Prod.fst h1;have hv:e.val=p.2:=congrArg Prod.snd h1;by_cases hp:p.1=k
   ·refine⟨i,p,by simp,hp,?_⟩;have hs:Instr.sameNow (.int .u16) (.int .u16 (k:Int)) e.key=some true:=by
     rw[he,hp];simp[Instr.sameNow]
    unfold Instr.findNow;rw[hs,hv]
   ·have hs:Instr.sameNow (.int .u16) (.int .u16 (k:Int)) e.key=some false:=by
     rw[he];have:((k:Int)==(p.1:Int))=false:=by simp;omega
     simp[Instr.sameNow,this]
    obtain⟨q,hq,hqk⟩:=hk;have hql:q∈l:=by
     rcases List.mem_cons.1 hq with rfl|h
     ·exact absurd hqk hp
     ·exact h
    obtain⟨j,p',hp',hpk',hf⟩:=ih l (i+1) h2 ⟨q,hql,hqk⟩;refine⟨j,p',by simp[hp'],hpk',?_⟩;unfold Instr.findNow;rw[hs];exact hf
def zPart:Value:= .agg #[.pointer none,.pointer none,.int .i64 0]
theorem run_lookup_no (w:World)(m k:Nat)(l:List (Nat×Value))(h:MapAt w m l)(hk:∀p∈l,p.1≠k):(Instr.lookup 141 (.map (some m)) (.int .u16 (k:Int)) true).run Tryz.prog w= .ok (.tuple #[zPart,.bool false]) w:=by
 obtain⟨es,clock,h1,h2⟩:=h;have hf:=find_none k es.toList l 0 h2 hk;simp[Instr.lookup,run_underlying Tryz.underlying141,MapKept.run_getObj_map h1,MapKept.run_checkKey Tryz.underlying140 (show MapKept.IsKey (.int .u16) (.int .u16 (k:Int))from rfl),MapKept.run_findKey Tryz.underlying140 hf,Result.andThen];rfl
theorem run_lookup_yes (w:World)(m k:Nat)(l:List (Nat×Value))(h:MapAt w m l)(hk:∃p∈l,p.1=k):∃p,p∈l∧p.1=k∧(Instr.lookup 141 (.map (some m)) (.int .u16 (k:Int)) true).run Tryz.prog w= .ok (.tuple #[p.2,.bool true]) w:=by
 obtain⟨es,clock,h1,h2⟩:=h;obtain⟨j,p,hp,hpk,hf⟩:=find_some k es.toList l 0 h2 hk;refine⟨p,hp,hpk,?_⟩;simp[Instr.lookup,run_underlying Tryz.underlying141,MapKept.run_getObj_map h1,MapKept.run_checkKey Tryz.underlying140 (show MapKept.IsKey (.int .u16) (.int .u16 (k:Int))from rfl),MapKept.run_findKey Tryz.underlying140 hf,Result.andThen]
set_option maxHeartbeats 2000000
set_option maxRecDepth 100000
def svO (dn:Bool)(nx m:Nat)(iv:Value)(iu:Int)(ip ic:Bool)(bp bv:Value):Obj:= .cells #[.bool dn,.int .u16 (nx:Int),.map (some m),iv,.int .i64 iu,.bool ip,.bool ic,bp,bv] 143 (0,0)
theorem svCells {w:World}{S:Nat}{dn:Bool}{nx m:Nat}{iv:Value}{iu:Int}{ip ic:Bool}{bp bv:Value}(h:w.heap[S]?=some (svO dn nx m iv iu ip ic bp bv)):w.cell? ⟨S,0,none⟩=some (.bool dn)∧w.cell? ⟨S,1,none⟩=some (.int .u16 (nx:Int))∧w.cell? ⟨S,2,none⟩=some (.map (some m))∧w.cell? ⟨S,7,none⟩=some bp∧w.cell? ⟨S,8,none⟩=some bv∧∀j,w.frozen? ⟨S,j,none⟩=false:=
 ⟨blkCell h 0,blkCell h 1,blkCell h 2,blkCell h 7,blkCell h 8,blkFree h⟩
theorem wrap16 (n:Nat):IntKind.u16.wrap ((n:Int)+1)=(((n+1) % 65536:Nat):Int):=by
 have h:IntKind.u16.wrap ((n:Int)+1)=((n:Int)+1) % 65536:=by simp[IntKind.wrap,IntKind.bits,IntKind.signed]
 rw[h];omega
def partV (C q:Nat)(i:Int):Value:= .agg #[.pointer (some ⟨C,0,none⟩),.pointer (some ⟨q,0,none⟩),.int .i64 i]
theorem freeID_any (S nx m j0:Nat)(dn:Bool)(iv:Value)(iu:Int)(ip ic:Bool)(bp bv:Value)(l:List (Nat×Value))(w:World)(hS:w.heap[S]?=some (svO dn nx m iv iu ip ic bp bv))(hnx:nx<65536)(hm:MapAt w m l)(hv:∀p∈l,∃C q i,p.2=partV C q i)(hk:∀p∈l,p.1≠(nx+j0) % 65536)(hy:∀j,j<j0→∃p∈l,p.1=(nx+j) % 65536):Calls Tryz.prog 160 #[.pointer (some ⟨S,0,none⟩)] w fun e w'=>e= .returned (.int .u16 (((nx+j0) % 65536:Nat):Int))∧w'.heap[S]?=some (svO dn ((nx+j0+1) % 65536) m iv iu ip ic bp bv)∧Chg [S] w w':=by
 have hmS:m≠S:=fun e=>by
  obtain⟨es,clock,h1,_⟩:=hm;rw[e,hS]at h1;unfold svO at h1;cases h1
 have HS:=hide' (And.intro hS (And.intro hm (And.intro hk (And.intro hmS (And.intro hv (And.intro hy hnx))))));have h0:(nx+0) % 65536=nx:=by omega
 clear hS hm hk hv hy;go_enter Tryz.func160,Tryz.ntmps160;go_wp2_with fail
 go_loopw [3,4,5] (fun _ _ _ wr=>∃j:Nat,j≤j0∧wr.heap.size=w.heap.size+j∧Hid (wr.heap[S]?=some (svO dn ((nx+j) % 65536) m iv iu ip ic bp bv)∧Chg [S] w wr)) (fun _ _ _ wr=>w.heap.size+j0-wr.heap.size)
 case atStart=>exact⟨0,Nat.zero_le _,rfl,by rw[h0];exact HS.out.1,Chg.refl _ _⟩
 case round=>
  obtain⟨j,hj,hsz,HJ⟩:=hrel;obtain⟨c0,c1,c2,c7,c8,cf⟩:=svCells HJ.out.1;have cf1:=cf 1;have hlt:=blkLt HJ.out.1;have hw:=wrap16 ((nx+j) % 65536);have hS1:=blkSet (i:=1) HJ.out.1 (.int .u16 (((((nx+j) % 65536)+1) % 65536:Nat):Int));have hm1:MapAt (wr.setCell ⟨S,1,none⟩ (.int .u16 (((((nx+j) % 65536)+1) % 65536:Nat):Int))) m l:=(HS.out.2.1.other (HJ.out.2.block m HS.out.2.1.lt (by simpa using HS.out.2.2.2.1))).other (Below.heap_setCell wr ⟨S,1,none⟩ _ m HS.out.2.2.2.1);have k1:=HJ.out.2.set (p:=⟨S,1,none⟩) (.inl (by simp)) (.int .u16 (((((nx+j) % 65536)+1) % 65536:Nat):Int));have hs1:(wr.setCell ⟨S,1,none⟩ (.int .u16 (((((nx+j) % 65536)+1) % 65536:Nat):Int))).heap.size=wr.heap.size:=by simp
  have he:((nx+j) % 65536+1) % 65536=(nx+(j+1)) % 65536:=by omega
  rw[he]at hw hS1 hm1 k1 hs1;have H1:=hide' (And.intro hS1 (And.intro hm1 k1));clear hS1 hm1 k1 cf c0 c7 c8 he;obtain⟨id2,hid2⟩:∃id2,(nx+(j+1)) % 65536=id2:=⟨_,rfl⟩
  obtain⟨id,hid⟩:∃id,(nx+j) % 65536=id:=⟨_,rfl⟩
  rw[hid2]at hw hs1 H1;rw[hid]at c1 hw;have HID:=hide' (And.intro hid hid2);clear hid hid2;go_upto_region 3 with fail
  have e2:=(svCells H1.out.1).2.2.1;have hlt1:=blkLt H1.out.1;generalize wr.setCell ⟨S,1,none⟩ (.int .u16 (id2:Int))=w1 at*;by_cases hjj:j=j0
  ·have hlook:=run_lookup_no w1 m id l H1.out.2.1 (fun p hp=>by rw[←HID.out.1,hjj];exact HS.out.2.2.1 p hp);unfold zPart at hlook;go_wp2;go_ret;have hb:∀o,Below w1.heap.size w1 (w1.alloc o):=fun o=>(Below.refl _ _).alloc (Nat.le_refl _) o
   obtain⟨q1,q2,q3⟩:=H1.out;obtain⟨r1,r2⟩:=HID.out;rw[hjj]at r1;have r3:(nx+j0+1) % 65536=id2:=by omega
   rw[r1,r3];exact⟨rfl,((hb _).block S (blkLt q1)).trans q1,q3.trans (Chg.of_below (M:=[]) (hb _)) (fun b hm=>by cases hm)⟩
  ·have hlt0:j<j0:=by omega
   obtain⟨p,hp,hpk,hlook⟩:=run_lookup_yes w1 m id l H1.out.2.1 (by rw[←HID.out.1];exact HS.out.2.2.2.2.2.1 j hlt0);obtain⟨pC,pq,pi,hpv⟩:=HS.out.2.2.2.2.1 p hp;rw[hpv]at hlook;unfold partV at hlook;clear hpv hp hpk;go_wp2;have hb:∀o,Below w1.heap.size w1 (w1.alloc o):=fun o=>(Below.refl _ _).alloc (Nat.le_refl _) o
   obtain⟨q1,q2,q3⟩:=H1.out;obtain⟨r1,r2⟩:=HID.out;refine⟨⟨j+1,by omega,by rw[World.size_alloc];omega,?_,q3.trans (Chg.of_below (M:=[]) (hb _)) (fun b hm=>by cases hm)⟩,?_⟩
   ·rw[r2];exact((hb _).block S (blkLt q1)).trans q1
   ·rw[World.size_alloc];omega
set_option maxHeartbeats 1500000
set_option maxRecDepth 20000
variable {w:World}{D u:Nat}{v:Value}{ps cl:Bool}
structure SvP where
 dn:Bool
 nx:Nat
 m:Nat
 bp:Value
 bv:Value
def svP (t:SvP)(v:Value)(u:Nat)(ps cl:Bool):Obj:=svO t.dn t.nx t.m v (u:Int) ps cl t.bp t.bv
theorem siCells {t:SvP}(h:w.heap[D]?=some (svP t v u ps cl)):
 w.cell? ⟨D,0,none⟩=some (.bool t.dn)∧w.cell? ⟨D,3,none⟩=some v∧w.cell? ⟨D,4,none⟩=some (.int .i64 (u:Int))∧w.cell? ⟨D,5,none⟩=some (.bool ps)∧w.cell? ⟨D,6,none⟩=some (.bool cl)∧(∀j,w.frozen? ⟨D,j,none⟩=false):=
 ⟨blkCell h 0,blkCell h 3,blkCell h 4,blkCell h 5,blkCell h 6,blkFree h⟩
theorem sLen_any (D u:Nat)(v:Value)(hb:Option Nat)(l:List UInt8)(w:World)(H:Held w v u hb l)(d1:w.cell? ⟨D,3,none⟩=some v)(d2:w.cell? ⟨D,4,none⟩=some (.int .i64 (u:Int))):Calls Tryz.prog 74 #[.pointer (some ⟨D,3,none⟩)] w fun e w'=>e= .returned (.int .i64 (l.length:Int))∧∃q,w'=w.drewN q:=by
 rcases H.form with⟨rfl,rfl,rfl,_⟩|⟨g,n,c,all,rfl,_,_,hn,hnc,hu,rfl,hsm,_⟩
 ·clear H;go_enter Tryz.func74,Tryz.ntmps74;go_wp2;go_quiet (fail)
  go_wp2;go_ret;exact⟨rfl,_,rfl⟩
 ·clear H;have hl:Hid ((all.drop u).length=n-u):=by show _=_;rw[List.length_drop,hn]
  clear hn;go_enter Tryz.func74,Tryz.ntmps74;go_wp2;go_quiet (fail)
  go_wp2;go_ret;refine⟨?_,_,rfl⟩;rw[hl.out];exact ret_int (by omega)
theorem sWaiting_any (D u:Nat)(v:Value)(hb:Option Nat)(l:List UInt8)(w:World)(H:Held w v u hb l)(d1:w.cell? ⟨D,3,none⟩=some v)(d2:w.cell? ⟨D,4,none⟩=some (.int .i64 (u:Int))):Calls Tryz.prog 125 #[.pointer (some ⟨D,3,none⟩)] w fun e w'=>(∃a c,e= .returned (.slice a l.length c)∧BytesA w a l.length c l∧(a=none→c=0)∧(∀g o,a=some ⟨g,o,none⟩→hb=some g))∧∃q,w'=w.drewN q:=by
 rcases H.form with⟨rfl,rfl,rfl,_⟩|⟨g,n,c,all,rfl,hbg,hg,hn,hnc,hu,rfl,hsm,hcell⟩
 ·clear H;go_enter Tryz.func125,Tryz.ntmps125;go_wp2;go_quiet (fail)
  go_wp2;go_ret;exact⟨⟨none,0,rfl,⟨rfl,Nat.le_refl _,by simp,fun g o e=>(by cases e),fun i hi=>(by cases hi)⟩,fun _=>rfl,fun g o e=>(by cases e)⟩,_,rfl⟩
 ·clear H;have HL:Hid ((all.drop u).length=n-u):=by show _=_;rw[List.length_drop,hn]
  have HC:=hide' hcell;have HN:=hide' hn;clear hn hcell;have hu':(u:Int)≤(n:Int):=by omega
  have huc:(u:Int)≤(c:Int):=by omega
  have huc':u≤c:=by omega
  by_cases hc:c=u
  ·subst hc;have hnu:n=c:=by omega
   subst hnu;go_enter Tryz.func125,Tryz.ntmps125;go_wp2;go_quiet (fail)
   go_wp2;go_ret;refine⟨⟨some ⟨g,0,none⟩,0,?_,⟨rfl,?_,?_,fun g' o' e=>?_,fun i hi=>?_⟩,fun h=>(by cases h),fun g' o' e=>(by cases e;exact hbg)⟩,_,rfl⟩
   ·rw[HL.out];simp
   ·rw[HL.out];omega
   ·rw[HL.out];omega
   ·cases e;exact hg
   ·rw[HL.out]at hi;omega
  ·go_enter Tryz.func125,Tryz.ntmps125;go_wp2;go_quiet (fail)
   go_wp2;go_ret;refine⟨⟨some ⟨g,u,none⟩,c-u,?_,⟨rfl,?_,?_,fun g' o' e=>?_,fun i hi=>?_⟩,fun h=>(by cases h),fun g' o' e=>(by cases e;exact hbg)⟩,_,rfl⟩
   ·rw[HL.out];congr 2<;>first|omega|simp
   ·rw[HL.out];omega
   ·rw[HL.out];omega
   ·cases e;exact hg
   ·rw[HL.out]at hi;refine⟨g,u,rfl,?_⟩;rw[HC.out (u+i) (by omega)];simp[byAt,List.getD]
structure SInAt (w:World)(D:Nat)(hb:Option Nat)(t:SvP)(s:St):Prop where
 ex:∃v u,w.heap[D]?=some (svP t v u s.pass s.closed)∧Held w v u hb s.held∧(u=0∨u<s.held.length)
 ne:hb≠some D
structure SInTo (w w':World)(D:Nat)(hb:Option Nat)(t:SvP)(s:St):Prop where
 ex:∃hb',SInAt w' D hb' t s∧Fresh w hb hb'
 turn:Turn2 D hb w w'
theorem sUse_any (D k:Nat)(t:SvP)(hb:Option Nat)(s:St)(w:World)(R:SInAt w D hb t s)(hk:k≤s.held.length):Calls Tryz.prog 126 #[.pointer (some ⟨D,3,none⟩),.int .i64 (k:Int)] w fun e w'=>e= .returned (.tuple #[])∧SInTo w w' D hb t ⟨s.held.drop k,s.pass,s.closed⟩:=by
 obtain⟨⟨v,u,hD,H,_⟩,hne⟩:=R;obtain⟨held,ps,cl⟩:=s;simp only at hD H hk;obtain⟨d0,d1,d2,d3,d4,df⟩:=siCells hD;have hlt:=blkLt hD;have H1:Held (w.setCell ⟨D,4,none⟩ (.int .i64 ((u:Int)+k))) v (u+k) hb (held.drop k):=by
  obtain⟨⟨all,h1,h2,h3,h4⟩,hbk⟩:=H;have hl:held.length=all.length-u:=by rw[h3];simp
  have:Held w v (u+k) hb (held.drop k):=⟨⟨all,h1,by omega,by rw[h3,List.drop_drop],h4⟩,hbk⟩
  exact this.other (fun b hb'=>Below.heap_setCell w ⟨D,4,none⟩ _ b (by intro e;apply hne;rw[hb',e]))
 have hub:u+k≤140737488355328:=by
  obtain⟨⟨all,h1,h2,h3,h4⟩,hbk⟩:=H;have hl:held.length=all.length-u:=by rw[h3];simp
  omega
 have hD1:=blkSet (i:=4) hD (.int .i64 ((u:Int)+k));have d1':(w.setCell ⟨D,4,none⟩ (.int .i64 ((u:Int)+k))).cell? ⟨D,3,none⟩=some v:=by go_simp
 have d2':(w.setCell ⟨D,4,none⟩ (.int .i64 ((u:Int)+k))).cell? ⟨D,4,none⟩=some (.int .i64 ((u:Int)+k)):=World.cell?_setCell_same' _ _ _ (by rw[d2];rfl);have hT1:Turn D w (w.setCell ⟨D,4,none⟩ (.int .i64 ((u:Int)+k))):=(Turn.refl D w).setCell 4 _;have hlen:(held.drop k).length≤140737488355328:=by
  obtain⟨⟨all,h1,h2,h3,h4⟩,hbk⟩:=H1;rw[h3];simp;omega
 have HH:=hide' (And.intro H1 (And.intro hD1 hT1));clear H H1 hD1 hT1 hD;have d2c:(w.setCell ⟨D,4,none⟩ (.int .i64 ((u:Int)+k))).cell? ⟨D,4,none⟩=some (.int .i64 ((u+k:Nat):Int)):=d2';have HLn:=hide' (fun q=>sLen_any D (u+k) v hb (held.drop k) ((w.setCell ⟨D,4,none⟩ (.int .i64 ((u:Int)+k))).drewN q) (HH.out.1.other (fun _ _=>rfl)) d1' d2c);have HLn0:=hide' (sLen_any D (u+k) v hb (held.drop k) (w.setCell ⟨D,4,none⟩ (.int .i64 ((u:Int)+k))) HH.out.1 d1' d2c);have HWt:=hide' (fun q=>sWaiting_any D (u+k) v hb (held.drop k) ((w.setCell ⟨D,4,none⟩ (.int .i64 ((u:Int)+k))).drewN q) (HH.out.1.other (fun _ _=>rfl)) d1' d2c);clear d2c;by_cases hge:(held.drop k).length≤u+k
 ·have hge':((held.drop k).length:Int)≤(u:Int)+k:=by omega
  generalize hL:held.drop k=L at*;have hL':=hide' hL;clear hL;go_enter Tryz.func126,Tryz.ntmps126;go_wp2;go_quiet ((go_at_call 74;exact Calls.quiet_of (HLn.out _)))
  go_wp2_with fail
  go_at_call 125;refine(HWt.out _).mono ?_;rintro e w2 ⟨⟨a,c,rfl,hBA,hnil,_⟩,q,rfl⟩;have HBA:=hide' hBA;have HNil:=hide' hnil;clear hBA hnil;by_cases hL0:L=[]
  ·subst hL0;have d1w:=d1';have fin:∀q',SInTo w ((((w.setCell ⟨D,4,none⟩ (.int .i64 ((u:Int)+k))).drewN q').setCell ⟨D,3,none⟩ (.slice none 0 0)).setCell ⟨D,4,none⟩ (.int .i64 0)) D hb t ⟨[],ps,cl⟩:=by
    intro q';refine⟨⟨none,⟨⟨.slice none 0 0,0,?_,⟨⟨[],World.ownsRow_nil _ _ _ _,Nat.le_refl _,rfl,by simp⟩,rfl⟩,.inl rfl⟩,by simp⟩,.inr (.inl rfl)⟩,.of_turn (((HH.out.2.2.drewN q').setCell 3 _).setCell 4 _)⟩;have e1':((w.setCell ⟨D,4,none⟩ (.int .i64 ((u:Int)+k))).drewN q').heap[D]?=_:=HH.out.2.1;exact(blkSet (i:=4) (blkSet (i:=3) e1' (.slice none 0 0)) (.int .i64 0)).trans rfl
   cases a with
   |none=>
    have hc0:c=0:=HNil.out rfl;subst hc0;clear HLn HWt HLn0;go_wp2;go_end0;exact⟨rfl,fin _⟩
   |some ad=>
    clear HLn HWt HLn0;go_wp2;go_end0;exact⟨rfl,fin _⟩
  ·have hlen1:1≤L.length:=by cases L with|nil=>exact absurd rfl hL0|cons=>simp
   clear hL0;obtain⟨g,o,rfl,hBI⟩:=HBA.out.in_ hlen1;obtain⟨i5,hi,hz0,hz1,hz2⟩:=info5;have HI:=hide' (And.intro hi (And.intro hz0 (And.intro hz1 hz2)));clear hi hz0 hz1 hz2;have HNw:Hid (∀q' (j:Nat) (x:Value),(byC L)[j]?=some x→((w.setCell ⟨D,4,none⟩ (.int .i64 ((u:Int)+k))).drewN q').cell? ((⟨g,o,none⟩:Addr).add j)=some x):=fun q' j x hx=>by
    have hadd:(⟨g,o,none⟩:Addr).add j=⟨g,o+j,none⟩:=by unfold Addr.add;split<;>simp_all
    have hj:j<L.length:=by have:=(List.getElem?_eq_some_iff.1 hx).1;rw[byC_len]at this;exact this
    rw[byC_get hj]at hx;cases hx;rw[hadd];exact hBI.by_ j hj
   have HLL:=hide' (byC_len L);generalize hLn:L.length=nL at*;have HLn2:=hide' hLn;clear hLn HLn HWt HLn0 hBI;go_wp2_with (first
    |(at_builtin;refine wpList_append_lies _ rfl _ _ _ rfl 0 5 i5 (.int .u8 0) 1 1 Tryz.underlying80 HI.out.1 HI.out.2.1 HI.out.2.2.1 HI.out.2.2.2 rfl (by omega) (.slice none 0 0) 0 [] rfl (World.ownsRow_nil _ _ _ _) ⟨g,o,none⟩ nL c (byC L) rfl (by rw[HLL.out];omega) (HNw.out _) (byC_one L) (by omega) (by unfold maxLen;omega) (by omega) (by omega) _ rfl ?_;intro g2 cap w4 hown hgrow hat hlt4;have HF:=hide' (And.intro hown (And.intro (grown_below hgrow) hat));obtain⟨f0,f1,f2,f3,f4,ff⟩:=siCells ((((grown_below hgrow).block D (by simpa using hlt)).trans HH.out.2.1).trans (show _=some (svP t v (u+k) ps cl)from rfl));clear hown hgrow hat)
    |fail)
   go_end0;have hg2:g2=w.heap.size:=by
    rcases HF.out.2.2 with h|h
    ·cases h
    ·simpa using h
   have hwr:=HF.out.1;have hb4:=HF.out.2.1;rw[Nat.zero_add,List.nil_append]at hwr;refine⟨rfl,?_⟩;have hD4:=((hb4.block D (by simpa using hlt)).trans HH.out.2.1)
   have hD5:=(blkSet (i:=4) (blkSet (i:=3) hD4 (.slice (some ⟨g2,0,none⟩) nL cap)) (.int .i64 0))
   refine⟨⟨some g2,⟨⟨.slice (some ⟨g2,0,none⟩) nL cap,0,hD5.trans rfl,?_,.inl rfl⟩,by simp;omega⟩,.inr (.inr ⟨g2,rfl,by omega⟩)⟩,.of_turn ((((HH.out.2.2.drewN _).trans (.of_below hb4)).setCell 3 _).setCell 4 _)⟩;have h0:Held w4 (.slice (some ⟨g2,0,none⟩) nL cap) 0 (some g2) L:=⟨⟨L,by rw[HLn2.out];exact hwr,Nat.zero_le _,rfl,by rw[HLn2.out];omega⟩,rfl⟩
   refine h0.other (fun b hb'=>?_);cases hb';rw[Below.heap_setCell _ ⟨D,4,none⟩ _ _ (by show g2≠D;omega),Below.heap_setCell _ ⟨D,3,none⟩ _ _ (by show g2≠D;omega)]
 ·have hge':¬((held.drop k).length:Int)≤(u:Int)+k:=by omega
  generalize hL:held.drop k=L at*;have hL':=hide' hL;clear hL;go_enter Tryz.func126,Tryz.ntmps126;go_wp2;go_quiet ((go_at_call 74;exact Calls.quiet_of (HLn.out _)))
  go_wp2;go_end0;refine⟨rfl,?_⟩;refine⟨⟨hb,⟨⟨v,u+k,?_,?_,.inr (by show u+k<L.length;omega)⟩,hne⟩,.inl rfl⟩,.of_turn (HH.out.2.2.drewN _)⟩
  ·exact HH.out.2.1.trans rfl
  ·exact HH.out.1.other (fun _ _=>rfl)
theorem sTook {w1:World}{t:SvP}{hb:Option Nat}{v1:Value}{held all:List UInt8}{piece:ByteArray}(hD:w.heap[D]?=some (svP t v u ps cl))(hne:hb≠some D)(hbk:v.ownBlock=hb)(h2:u≤all.length)(h3:held=all.drop u)(hiv:u=0∨u<held.length)(hsz:all.length+piece.size≤140737488355328)(hown:w1.ownsRow 0 5 1 v1 (all.length+piece.size) (byC all++Lib.strCells piece))(hgrow:w.grownBy w1 v.ownBlock)(hat:v1.ownBlock=v.ownBlock∨v1.ownBlock=some w.heap.size):SInTo w (w1.setCell ⟨D,3,none⟩ v1) D hb t ⟨held++piece.data.toList,ps,cl⟩∧w1.heap[D]?=some (svP t v u ps cl):=by
 have hlt:=blkLt hD;have hnD:some D≠v.ownBlock:=by rw[hbk];exact fun e=>hne e.symm
 have hD1:=(hgrow.block D hlt hnD).trans hD;have hv1:v1.ownBlock≠some D:=by
  rcases hat with h|h
  ·rw[h,hbk];exact hne
  ·rw[h];simp;omega
 have hln:(all++piece.data.toList).length=all.length+piece.size:=by simp
 refine⟨⟨⟨v1.ownBlock,⟨⟨v1,u,(blkSet (i:=3) hD1 v1).trans rfl,?_,?_⟩,hv1⟩,?_⟩,?_⟩,hD1⟩
 ·have H1:Held w1 v1 u v1.ownBlock (held++piece.data.toList):=⟨⟨all++piece.data.toList,by rw[byC_app,hln,←strCells_byC];exact hown,by simp;omega,by rw[h3,List.drop_append_of_le_length h2],by rw[hln];exact hsz⟩,rfl⟩
  exact H1.other (fun k hk=>Below.heap_setCell w1 ⟨D,3,none⟩ _ k (by intro e;apply hv1;rw[hk,e]))
 ·rcases hiv with h|h
  ·exact .inl h
  ·right;show u<(held++piece.data.toList).length;simp;omega
 ·rcases hat with h|h
  ·exact .inl (by rw[h,hbk])
  ·exact .inr (.inr ⟨_,h,Nat.le_refl _⟩)
 ·refine⟨hgrow.os,hgrow.tape,hgrow.output,?_,fun k hk hn hh=>?_⟩
  ·have:=hgrow.size;simpa using this
  ·exact(Below.heap_setCell w1 ⟨D,3,none⟩ _ k hn).trans (hgrow.block k hk (by rw[hbk];exact hh))
theorem sTake_any (D:Nat)(t:SvP)(hb:Option Nat)(held:List UInt8)(piece:ByteArray)(w:World)(R:SInAt w D hb t ⟨held,false,false⟩)(hsm:2*held.length+piece.size≤140737488355328):Calls Tryz.prog 58 #[.pointer (some ⟨D,3,none⟩),.string piece] w fun e w'=>e= .returned (.tuple #[])∧SInTo w w' D hb t ⟨held++piece.data.toList,false,false⟩:=by
 obtain⟨⟨v,u,hD,H,hiv⟩,hne⟩:=R;simp only at hD H hiv hsm;obtain⟨d0,d1,d2,d3,d4,df⟩:=siCells hD;have hlt:=blkLt hD;obtain⟨⟨all,h1,h2,h3,h4⟩,hbk⟩:=H;have hl:held.length=all.length-u:=by rw[h3];simp
 have hsz:all.length+piece.size≤140737488355328:=by omega
 have hp1:piece.size≤140737488355328:=by omega
 have HT:=hide' (fun w1 v1 a b c=>sTook (w1:=w1) (v1:=v1) hD hne hbk h2 h3 hiv hsz a b c);obtain⟨va,vn,vc,hvf⟩:=own_form h1;subst hvf;have H1:=hide' h1;clear hD h1 h2 h3 h4 hiv hbk hl;go_enter Tryz.func58,Tryz.ntmps58;go_wp2_with (first
  |(at_builtin;refine wpList_append_str _ rfl _ _ rfl (.slice va vn vc) all.length (byC all) rfl H1.out piece rfl hsz ?_;intro v1 w1 a b c;obtain⟨ua,un,uc,huf⟩:=own_form a;subst huf;have HK:=hide' (HT.out w1 _ a b c);clear a b c;obtain⟨f0,f1,f2,f3,f4,ff⟩:=siCells HK.out.2)
  |fail)
 go_end0;exact⟨rfl,HK.out.1⟩
end Go.Proofs.YtlonjggfnleolaaGreatDoor
