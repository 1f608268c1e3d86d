import Derived.Test.YtlonjggfnleolaaGreatDoorReaderNil
import Derived.Test.YtlonjggfnleolaaGreatDoorAnB
import Derived.Test.YtlonjggfnleolaaGreatDoorRdrD
import Derived.RangeFuncNested
import Derived.RangeFuncBound
import Derived.RangeFuncCalls
import Derived.RangeFuncLeaves
import Derived.Shelf.Abstract
import Derived.Shelf.RegionOpen
import Derived.OwnWalkIn
import Derived.TacticsInMore
import Derived.LoopNIn
import Derived.LoopIn
import Derived.MapKept
import Derived.Maps.OwnIn
import Derived.Conc.LoneCalls
import Derived.Conc.LoneSelect
import Derived.Shelf.SlicesE.Delete
namespace Go.Proofs.YtlonjggfnleolaaGreatDoor
open Go.RowKit Go.Shelf
set_option linter.unusedVariables false
set_option maxHeartbeats 2000000
set_option maxRecDepth 20000
attribute [local go_sem] Oper.semAt_some
def boxR (D:Nat):Obj:= .cells #[.pointer (some ⟨D,0,none⟩)] 97 (0,0)
def cmdV (kb kc:Nat):Value:= .agg #[.int .i64 1,.slice (some ⟨kb,0,none⟩) 1 kc,.string ⟨#[]⟩,.string ⟨#[]⟩,.bool false,.int .i64 0]
theorem next1_ex (n l X D g c:Nat)(W:World)(hX:W.heap[X]?=some (boxR D))(hXD:X≠D)(hD:W.heap[D]?=some (rd3 (.slice (some ⟨g,0,none⟩) 15 c) 0))(hc:15≤c)(hg:g<W.heap.size)(hgD:g≠D)(hb:∀(i:Nat) (b:UInt8),exL[i]?=some b→W.cell? ⟨g,0+i,none⟩=some (.int .u8 (b.toNat:Int)))(R:World→Prop)(hY:∀W1 kb kc,Turn D W W1→W1.heap[D]?=some (rd3 (.slice none 0 0) 0)→W.heap.size≤kb→kb<W1.heap.size→W1.cell? ⟨kb,0,none⟩=some (.string ⟨#[97]⟩)→YieldAt Fence.wide (n-1) Tryz.prog l #[cmdV kb kc] W1 fun e W'=>e= .returned (.bool true)∧W'.heap[D]?=some (rd3 (.slice none 0 0) 0)∧W'.heap[X]?=some (boxR D)∧R W')(hR:∀W1 W2,R W1→Below W1.heap.size W1 W2→R W2):CallsIn Fence.wide n Tryz.prog 120 #[.func (.yield l) #[] #[],.pointer (some ⟨X,0,none⟩)] W fun e W'=>(∃v,e= .returned v)∧R W':=by
 have HX:=hide' hX;have HD:=hide' hD;have HY:=hide' hY;have HR:=hide' hR;have HB:=hide' hb;clear hD hY hR hb;unfold boxR at hX;have x0:=blkCell hX 0;simp at x0;clear hX;refine callsIn_of_wp Tryz.func120 rfl trivial ?_ rfl;simp only[Tryz.ntmps120,List.size_toArray,List.length_cons,List.length_nil,Nat.reduceAdd,Nat.reduceSub,Array.replicate_succ,Array.replicate_zero,List.push_toArray,List.append_toArray,List.nil_append,List.cons_append]
 gi_wp2;refine wpIn_loop_rounds 2 ?_;rw[roundsIn_succ];gi_wp2_with fail;refine⟨trivial,(fun h=>(by cases h)),?_⟩;refine(callsIn_wide.2 (readR_ex D g c W HD.out hc hg hgD HB.out)).mono ?_;rintro e w1 ⟨⟨kb,kc,rfl,hk1,hk2,hk3⟩,hD1,T1⟩;have hsz1:=T1.size;have hXlt:=blkLt HX.out;have hX1:=(T1.block X hXlt hXD).trans HX.out;have hDlt:=blkLt HD.out;have TA:=T1.alloc (Obj.cells #[.int .i64 1,.slice (some ⟨kb,0,none⟩) 1 kc,.string ⟨#[]⟩,.string ⟨#[]⟩,.bool false,.int .i64 0] 36);have hy:=HY.out _ kb kc TA ((Below.heap_alloc w1 _ D (by omega)).trans hD1) hk1 (by simp;omega) ((World.cell?_of_block (w:=w1) (Below.heap_alloc w1 _ kb hk2)).trans hk3);unfold cmdV at hy;obtain⟨fn,tmps,assign,body,hy1,hy2⟩:=hy
 have HD1:=hide' hD1;have HX1:=hide' hX1;have HT1:=hide' T1;have HY2:=hide' hy2;clear hD1 hX1 T1 TA hk3 hy2;gi_wp2;refine⟨(fun h=>(by cases h)),HY2.out.mono ?_⟩;rintro e W2 ⟨rfl,hD2,hX2,hR2⟩;have HX2:=hide' hX2;have HRR:=hide' hR2;unfold boxR at hX2;have z0:=blkCell hX2 0;simp at z0;clear hX2 hR2 hy1 HY2 HT1 HX1 HD1;gi_wp2;rw[roundsIn_succ];gi_wp2_with fail;refine⟨trivial,(fun h=>(by cases h)),?_⟩;refine(callsIn_wide.2 (readRd_nil D W2 hD2)).mono ?_;rintro e w3 ⟨rfl,hD3,B3⟩;have HB3:=hide' B3;clear B3;gi_wp2;refine⟨fun _ h=>(by cases h),?_⟩;gi_wp2;refine bodyPost_ret (results_none rfl _ _ _) rfl ?_;refine⟨⟨_,rfl⟩,HR.out _ _ HRR.out (HB3.out.trans ?_)⟩;exact((Below.refl _ _).alloc (HB3.out.size) _)
variable {w:World}{m:Nat}{l:List (Nat×Value)}
def MapAt (w:World)(m:Nat)(l:List (Nat×Value)):Prop:=∃es clock,w.heap[m]?=some (.map es clock)∧es.toList.map (fun e=>(e.key,e.val))=l.map (fun p=>(Value.int .u16 (p.1:Int),p.2))
theorem MapAt.other {w':World}(h:MapAt w m l)(k:w'.heap[m]?=w.heap[m]?):MapAt w' m l:=by
 obtain⟨es,clock,h1,h2⟩:=h;exact⟨es,clock,k.trans h1,h2⟩
theorem MapAt.lt (h:MapAt w m l):m<w.heap.size:=by
 obtain⟨es,clock,h1,h2⟩:=h;exact blkLt h1
theorem find_none (k:Nat):∀(es:List MapEntry) (l:List (Nat×Value)) (i:Nat),es.map (fun e=>(e.key,e.val))=l.map (fun p=>(Value.int .u16 (p.1:Int),p.2))→(∀p∈l,p.1≠k)→Instr.findNow (.int .u16) (.int .u16 (k:Int)) es i=some none:=by
 intro es;induction es with
 |nil=>intro l i _ _;rfl
 |cons e es ih=>
  intro l i h hk;cases l with
  |nil=>simp at h
  |cons p l=>
   simp only[List.map_cons,List.cons.injEq]at h;obtain⟨h1,h2⟩:=h;have hp:=hk p (by simp);have he:e.key= .int .u16 (p.1:Int):=congrArg Prod.fst h1;have hs:Instr.sameNow (.int .u16) (.int .u16 (k:Int)) e.key=some false:=by
    rw[he];have:((k:Int)==(p.1:Int))=false:=by simp;omega
    simp[Instr.sameNow,this]
   unfold Instr.findNow;rw[hs];exact ih l (i+1) h2 (fun q hq=>hk q (by simp[hq]))
theorem find_some (k:Nat):∀(es:List MapEntry) (l:List (Nat×Value)) (i:Nat),es.map (fun e=>(e.key,e.val))=l.map (fun p=>(Value.int .u16 (p.1:Int),p.2))→(∃p∈l,p.1=k)→∃j p,p∈l∧p.1=k∧Instr.findNow (.int .u16) (.int .u16 (k:Int)) es i=some (some (j,p.2)):=by
 intro es;induction es with
 |nil=>intro l i h hk;cases l with
  |nil=>obtain⟨p,hp,_⟩:=hk;cases hp
  |cons p l=>simp at h
 |cons e es ih=>
  intro l i h hk;cases l with
  |nil=>simp at h
  |cons p l=>
   simp only[List.map_cons,List.cons.injEq]at h;obtain⟨h1,h2⟩:=h;have he:e.key= .int .u16 (p.1:Int):=congrArg Prod.fst h1;have hv:e.val=p.2:=congrArg Prod.snd h1;by_cases hp:p.1=k
   ·refine⟨i,p,by simp,hp,?_⟩;have hs:Instr.sameNow (.int .u16) (.int .u16 (k:Int)) e.key=some true:=by
     rw[he,hp];simp[Instr.sameNow]
    unfold Instr.findNow;rw[hs,hv]
   ·have hs:Instr.sameNow (.int .u16) (.int .u16 (k:Int)) e.key=some false:=by
     rw[he];have:((k:Int)==(p.1:Int))=false:=by simp;omega
     simp[Instr.sameNow,this]
    obtain⟨q,hq,hqk⟩:=hk;have hql:q∈l:=by
     rcases List.mem_cons.1 hq with rfl|h
     ·exact absurd hqk hp
     ·exact h
    obtain⟨j,p',hp',hpk',hf⟩:=ih l (i+1) h2 ⟨q,hql,hqk⟩;refine⟨j,p',by simp[hp'],hpk',?_⟩;unfold Instr.findNow;rw[hs];exact hf
def zPart:Value:= .agg #[.pointer none,.pointer none,.int .i64 0]
theorem run_lookup_no (w:World)(m k:Nat)(l:List (Nat×Value))(h:MapAt w m l)(hk:∀p∈l,p.1≠k):(Instr.lookup 141 (.map (some m)) (.int .u16 (k:Int)) true).run Tryz.prog w= .ok (.tuple #[zPart,.bool false]) w:=by
 obtain⟨es,clock,h1,h2⟩:=h;have hf:=find_none k es.toList l 0 h2 hk;simp[Instr.lookup,run_underlying Tryz.underlying141,MapKept.run_getObj_map h1,MapKept.run_checkKey Tryz.underlying140 (show MapKept.IsKey (.int .u16) (.int .u16 (k:Int))from rfl),MapKept.run_findKey Tryz.underlying140 hf,Result.andThen];rfl
theorem run_lookup_yes (w:World)(m k:Nat)(l:List (Nat×Value))(h:MapAt w m l)(hk:∃p∈l,p.1=k):∃p,p∈l∧p.1=k∧(Instr.lookup 141 (.map (some m)) (.int .u16 (k:Int)) true).run Tryz.prog w= .ok (.tuple #[p.2,.bool true]) w:=by
 obtain⟨es,clock,h1,h2⟩:=h;obtain⟨j,p,hp,hpk,hf⟩:=find_some k es.toList l 0 h2 hk;refine⟨p,hp,hpk,?_⟩;simp[Instr.lookup,run_underlying Tryz.underlying141,MapKept.run_getObj_map h1,MapKept.run_checkKey Tryz.underlying140 (show MapKept.IsKey (.int .u16) (.int .u16 (k:Int))from rfl),MapKept.run_findKey Tryz.underlying140 hf,Result.andThen]
set_option maxHeartbeats 2000000
set_option maxRecDepth 100000
def svO (dn:Bool)(nx m:Nat)(iv:Value)(iu:Int)(ip ic:Bool)(bp bv:Value):Obj:= .cells #[.bool dn,.int .u16 (nx:Int),.map (some m),iv,.int .i64 iu,.bool ip,.bool ic,bp,bv] 143 (0,0)
theorem svCells {w:World}{S:Nat}{dn:Bool}{nx m:Nat}{iv:Value}{iu:Int}{ip ic:Bool}{bp bv:Value}(h:w.heap[S]?=some (svO dn nx m iv iu ip ic bp bv)):w.cell? ⟨S,0,none⟩=some (.bool dn)∧w.cell? ⟨S,1,none⟩=some (.int .u16 (nx:Int))∧w.cell? ⟨S,2,none⟩=some (.map (some m))∧w.cell? ⟨S,7,none⟩=some bp∧w.cell? ⟨S,8,none⟩=some bv∧∀j,w.frozen? ⟨S,j,none⟩=false:=
 ⟨blkCell h 0,blkCell h 1,blkCell h 2,blkCell h 7,blkCell h 8,blkFree h⟩
theorem wrap16 (n:Nat):IntKind.u16.wrap ((n:Int)+1)=(((n+1) % 65536:Nat):Int):=by
 have h:IntKind.u16.wrap ((n:Int)+1)=((n:Int)+1) % 65536:=by simp[IntKind.wrap,IntKind.bits,IntKind.signed]
 rw[h];omega
def partV (C q:Nat)(i:Int):Value:= .agg #[.pointer (some ⟨C,0,none⟩),.pointer (some ⟨q,0,none⟩),.int .i64 i]
theorem freeID_any (S nx m j0:Nat)(dn:Bool)(iv:Value)(iu:Int)(ip ic:Bool)(bp bv:Value)(l:List (Nat×Value))(w:World)(hS:w.heap[S]?=some (svO dn nx m iv iu ip ic bp bv))(hnx:nx<65536)(hm:MapAt w m l)(hv:∀p∈l,∃C q i,p.2=partV C q i)(hk:∀p∈l,p.1≠(nx+j0) % 65536)(hy:∀j,j<j0→∃p∈l,p.1=(nx+j) % 65536):Calls Tryz.prog 160 #[.pointer (some ⟨S,0,none⟩)] w fun e w'=>e= .returned (.int .u16 (((nx+j0) % 65536:Nat):Int))∧w'.heap[S]?=some (svO dn ((nx+j0+1) % 65536) m iv iu ip ic bp bv)∧Chg [S] w w':=by
 have hmS:m≠S:=fun e=>by
  obtain⟨es,clock,h1,_⟩:=hm;rw[e,hS]at h1;unfold svO at h1;cases h1
 have HS:=hide' (And.intro hS (And.intro hm (And.intro hk (And.intro hmS (And.intro hv (And.intro hy hnx))))));have h0:(nx+0) % 65536=nx:=by omega
 clear hS hm hk hv hy;go_enter Tryz.func160,Tryz.ntmps160;go_wp2_with fail
 go_loopw [3,4,5] (fun _ _ _ wr=>∃j:Nat,j≤j0∧wr.heap.size=w.heap.size+j∧Hid (wr.heap[S]?=some (svO dn ((nx+j) % 65536) m iv iu ip ic bp bv)∧Chg [S] w wr)) (fun _ _ _ wr=>w.heap.size+j0-wr.heap.size)
 case atStart=>exact⟨0,Nat.zero_le _,rfl,by rw[h0];exact HS.out.1,Chg.refl _ _⟩
 case round=>
  obtain⟨j,hj,hsz,HJ⟩:=hrel;obtain⟨c0,c1,c2,c7,c8,cf⟩:=svCells HJ.out.1;have cf1:=cf 1;have hlt:=blkLt HJ.out.1;have hw:=wrap16 ((nx+j) % 65536);have hS1:=blkSet (i:=1) HJ.out.1 (.int .u16 (((((nx+j) % 65536)+1) % 65536:Nat):Int));have hm1:MapAt (wr.setCell ⟨S,1,none⟩ (.int .u16 (((((nx+j) % 65536)+1) % 65536:Nat):Int))) m l:=(HS.out.2.1.other (HJ.out.2.block m HS.out.2.1.lt (by simpa using HS.out.2.2.2.1))).other (Below.heap_setCell wr ⟨S,1,none⟩ _ m HS.out.2.2.2.1);have k1:=HJ.out.2.set (p:=⟨S,1,none⟩) (.inl (by simp)) (.int .u16 (((((nx+j) % 65536)+1) % 65536:Nat):Int));have hs1:(wr.setCell ⟨S,1,none⟩ (.int .u16 (((((nx+j) % 65536)+1) % 65536:Nat):Int))).heap.size=wr.heap.size:=by simp
  have he:((nx+j) % 65536+1) % 65536=(nx+(j+1)) % 65536:=by omega
  rw[he]at hw hS1 hm1 k1 hs1;have H1:=hide' (And.intro hS1 (And.intro hm1 k1));clear hS1 hm1 k1 cf c0 c7 c8 he;obtain⟨id2,hid2⟩:∃id2,(nx+(j+1)) % 65536=id2:=⟨_,rfl⟩
  obtain⟨id,hid⟩:∃id,(nx+j) % 65536=id:=⟨_,rfl⟩
  rw[hid2]at hw hs1 H1;rw[hid]at c1 hw;have HID:=hide' (And.intro hid hid2);clear hid hid2;go_upto_region 3 with fail
  have e2:=(svCells H1.out.1).2.2.1;have hlt1:=blkLt H1.out.1;generalize wr.setCell ⟨S,1,none⟩ (.int .u16 (id2:Int))=w1 at*;by_cases hjj:j=j0
  ·have hlook:=run_lookup_no w1 m id l H1.out.2.1 (fun p hp=>by rw[←HID.out.1,hjj];exact HS.out.2.2.1 p hp);unfold zPart at hlook;go_wp2;go_ret;have hb:∀o,Below w1.heap.size w1 (w1.alloc o):=fun o=>(Below.refl _ _).alloc (Nat.le_refl _) o
   obtain⟨q1,q2,q3⟩:=H1.out;obtain⟨r1,r2⟩:=HID.out;rw[hjj]at r1;have r3:(nx+j0+1) % 65536=id2:=by omega
   rw[r1,r3];exact⟨rfl,((hb _).block S (blkLt q1)).trans q1,q3.trans (Chg.of_below (M:=[]) (hb _)) (fun b hm=>by cases hm)⟩
  ·have hlt0:j<j0:=by omega
   obtain⟨p,hp,hpk,hlook⟩:=run_lookup_yes w1 m id l H1.out.2.1 (by rw[←HID.out.1];exact HS.out.2.2.2.2.2.1 j hlt0);obtain⟨pC,pq,pi,hpv⟩:=HS.out.2.2.2.2.1 p hp;rw[hpv]at hlook;unfold partV at hlook;clear hpv hp hpk;go_wp2;have hb:∀o,Below w1.heap.size w1 (w1.alloc o):=fun o=>(Below.refl _ _).alloc (Nat.le_refl _) o
   obtain⟨q1,q2,q3⟩:=H1.out;obtain⟨r1,r2⟩:=HID.out;refine⟨⟨j+1,by omega,by rw[World.size_alloc];omega,?_,q3.trans (Chg.of_below (M:=[]) (hb _)) (fun b hm=>by cases hm)⟩,?_⟩
   ·rw[r2];exact((hb _).block S (blkLt q1)).trans q1
   ·rw[World.size_alloc];omega
set_option maxHeartbeats 2000000
set_option maxRecDepth 100000
theorem partCommand_any (C q kb kn kc i:Nat)(k:Int)(val wd key:ByteArray)(ft:Bool)(id:Int)(n:Int)(fa re:Bool)(yv vv:Value)(w:World)(hq:w.heap[q]?=some (quO k (.slice (some ⟨kb,0,none⟩) kn kc) val wd ft id n fa re yv vv))(hi:i<kn)(hkc:kn≤kc)(hkm:kn≤1000000)(hkey:w.cell? ⟨kb,i,none⟩=some (.string key)):Calls Tryz.prog 162 #[partV C q i] w fun e w'=>∃b',w.heap.size≤b'∧e= .returned (.agg #[.int .i64 k,.slice (some ⟨b',0,none⟩) 1 1,.string val,.string ⟨#[]⟩,.bool false,.int .i64 0])∧w'.heap[b']?=some (.cells #[.string key] 9 (0,0))∧Below w.heap.size w w':=by
 unfold quO at hq;have q0:=blkCell hq 0;have q1:=blkCell hq 1;have q2:=blkCell hq 2;have q3:=blkCell hq 3;have q4:=blkCell hq 4;have q5:=blkCell hq 5;simp at q0 q1 q2 q3 q4 q5;have hlt:=blkLt hq;have hkl:kb<w.heap.size:=World.block_lt_of_cell? w ⟨kb,i,none⟩ hkey;have hqn:¬q=w.heap.size:=by omega
 have hkbn:¬kb=w.heap.size:=by omega
 have mixed:Tryz.prog.follows .mixedOrders=true:=by kernel_rfl
 clear hq;unfold partV;go_enter Tryz.func162,Tryz.ntmps162;have hq1:¬q=w.heap.size+1:=by omega
 obtain⟨O1,hO1⟩:∃O,O=Obj.cells #[.pointer (some ⟨C,0,none⟩),.pointer (some ⟨q,0,none⟩),.int .i64 (i:Int)] 222:=⟨_,rfl⟩
 obtain⟨O2,hO2⟩:∃O,O=Obj.cells #[.int .i64 0,.slice none 0 0,.string ⟨#[]⟩,.string ⟨#[]⟩,.bool false,.int .i64 0] 36:=⟨_,rfl⟩
 obtain⟨O3,hO3⟩:∃O,O=Obj.cells #[.int .i64 k,.slice (some ⟨kb,0,none⟩) kn kc,.string val,.string wd,.bool ft,.int .i64 id] 36:=⟨_,rfl⟩
 have hB1:Below w.heap.size w (w.alloc O1):=(Below.refl _ _).alloc (Nat.le_refl _) _;have hB2:Below (w.alloc O1).heap.size (w.alloc O1) ((w.alloc O1).alloc O2):=(Below.refl _ _).alloc (Nat.le_refl _) _;have hB3:Below ((w.alloc O1).alloc O2).heap.size ((w.alloc O1).alloc O2) (((w.alloc O1).alloc O2).alloc O3):=(Below.refl _ _).alloc (Nat.le_refl _) _;have s1:(w.alloc O1).heap.size=w.heap.size+1:=World.size_alloc _ _;have s2:((w.alloc O1).alloc O2).heap.size=w.heap.size+1+1:=by rw[World.size_alloc,s1]
 have n1:=blkNew w O1;have n2:=blkNew (w.alloc O1) O2;have n3:=blkNew ((w.alloc O1).alloc O2) O3;rw[s1]at n2;rw[s2]at n3;have m1:=(hB3.block _ (by omega)).trans ((hB2.block _ (by omega)).trans n1);have m2:=(hB3.block _ (by omega)).trans n2;have hkk:=(hB3.cell (p:=⟨kb,i,none⟩) (by show kb<_;omega)).trans ((hB2.cell (p:=⟨kb,i,none⟩) (by show kb<_;omega)).trans ((hB1.cell (p:=⟨kb,i,none⟩) hkl).trans hkey));have hBB:Below w.heap.size w (((w.alloc O1).alloc O2).alloc O3):=(hB1.trans (hB2.mono (by omega))).trans (hB3.mono (by omega));have hs3:(((w.alloc O1).alloc O2).alloc O3).heap.size=w.heap.size+1+1+1:=by rw[World.size_alloc,s2]
 go_upto_region 2 with fail
 rw[←hO1,←hO2,←hO3];generalize ((w.alloc O1).alloc O2).alloc O3=W3 at*;rw[hO1]at m1;rw[hO2]at m2;rw[hO3]at n3;have a2:W3.cell? ⟨w.heap.size,2,none⟩=some (.int .i64 (i:Int)):=blkCell m1 2;have b0:W3.cell? ⟨w.heap.size+1+1,0,none⟩=some (.int .i64 k):=blkCell n3 0;have b1:W3.cell? ⟨w.heap.size+1+1,1,none⟩=some (.slice (some ⟨kb,0,none⟩) kn kc):=blkCell n3 1;have b2:W3.cell? ⟨w.heap.size+1+1,2,none⟩=some (.string val):=blkCell n3 2;have hkd:W3.cell? ⟨kb,i,none⟩=some (.string key):=hkk;have hBd:Hid (Below w.heap.size w W3∧W3.heap.size=w.heap.size+1+1+1∧W3.heap[w.heap.size+1]?=some (.cells #[.int .i64 0,.slice none 0 0,.string ⟨#[]⟩,.string ⟨#[]⟩,.bool false,.int .i64 0] 36 (0,0))):=⟨hBB,hs3,m2⟩
 have r0:W3.cell? ⟨w.heap.size+1,0,none⟩=some (.int .i64 0):=blkCell m2 0;have r1:W3.cell? ⟨w.heap.size+1,1,none⟩=some (.slice none 0 0):=blkCell m2 1;have r2:W3.cell? ⟨w.heap.size+1,2,none⟩=some (.string ⟨#[]⟩):=blkCell m2 2;have r3:W3.cell? ⟨w.heap.size+1,3,none⟩=some (.string ⟨#[]⟩):=blkCell m2 3;have r4:W3.cell? ⟨w.heap.size+1,4,none⟩=some (.bool false):=blkCell m2 4;have r5:W3.cell? ⟨w.heap.size+1,5,none⟩=some (.int .i64 0):=blkCell m2 5;have f0:W3.frozen? ⟨w.heap.size+1,0,none⟩=false:=blkFree m2 0;have f1:W3.frozen? ⟨w.heap.size+1,1,none⟩=false:=blkFree m2 1;have f2:W3.frozen? ⟨w.heap.size+1,2,none⟩=false:=blkFree m2 2;have f3:W3.frozen? ⟨w.heap.size+1,3,none⟩=false:=blkFree m2 3;have f4:W3.frozen? ⟨w.heap.size+1,4,none⟩=false:=blkFree m2 4
 have f5:W3.frozen? ⟨w.heap.size+1,5,none⟩=false:=blkFree m2 5;have l1:w.heap.size<W3.heap.size:=by omega
 have l2:w.heap.size+1<W3.heap.size:=by omega
 have l3:w.heap.size+1+1<W3.heap.size:=by omega
 have l4:kb<W3.heap.size:=by omega
 clear hO1 hO2 hO3 hB1 hB2 hB3 s1 s2 n1 n2 n3 m1 m2 hkk hBB hs3 q0 q1 q2 q3 q4 q5 hlt hkl hqn hkbn hq1 hkey;go_region
 obtain⟨hBB,hs3,m2⟩:=hBd.out;have p1:=blkSet (i:=5) (blkSet (i:=4) (blkSet (i:=3) (blkSet (i:=2) (blkSet (i:=1) (blkSet (i:=0) m2 (.int .i64 k)) (.slice (some ⟨W3.heap.size,0,none⟩) 1 1)) (.string val)) (.string ⟨#[]⟩)) (.bool false)) (.int .i64 0);have c1:Chg [w.heap.size+1] W3 ((((((W3.setCell ⟨w.heap.size+1,0,none⟩ (.int .i64 k)).setCell ⟨w.heap.size+1,1,none⟩ (.slice (some ⟨W3.heap.size,0,none⟩) 1 1)).setCell ⟨w.heap.size+1,2,none⟩ (.string val)).setCell ⟨w.heap.size+1,3,none⟩ (.string ⟨#[]⟩)).setCell ⟨w.heap.size+1,4,none⟩ (.bool false)).setCell ⟨w.heap.size+1,5,none⟩ (.int .i64 0)):=((((((Chg.refl _ W3).set (.inl (by simp)) _).set (.inl (by simp)) _).set (.inl (by simp)) _).set (.inl (by simp)) _).set (.inl (by simp)) _).set (.inl (by simp)) _
 have z1:((((((W3.setCell ⟨w.heap.size+1,0,none⟩ (.int .i64 k)).setCell ⟨w.heap.size+1,1,none⟩ (.slice (some ⟨W3.heap.size,0,none⟩) 1 1)).setCell ⟨w.heap.size+1,2,none⟩ (.string val)).setCell ⟨w.heap.size+1,3,none⟩ (.string ⟨#[]⟩)).setCell ⟨w.heap.size+1,4,none⟩ (.bool false)).setCell ⟨w.heap.size+1,5,none⟩ (.int .i64 0)).heap.size=W3.heap.size:=by simp
 generalize (((((W3.setCell ⟨w.heap.size+1,0,none⟩ (.int .i64 k)).setCell ⟨w.heap.size+1,1,none⟩ (.slice (some ⟨W3.heap.size,0,none⟩) 1 1)).setCell ⟨w.heap.size+1,2,none⟩ (.string val)).setCell ⟨w.heap.size+1,3,none⟩ (.string ⟨#[]⟩)).setCell ⟨w.heap.size+1,4,none⟩ (.bool false)).setCell ⟨w.heap.size+1,5,none⟩ (.int .i64 0)=W5 at*;have hB6:Below W5.heap.size W5 (W5.alloc (.cells #[.string key] 9)):=(Below.refl _ _).alloc (Nat.le_refl _) _;have p6:=(hB6.block _ (blkLt p1)).trans p1;have n6:=blkNew W5 (.cells #[.string key] 9);rw[z1]at n6;have t0:=blkCell p6 0;have t1:=blkCell p6 1;have t2:=blkCell p6 2;have t3:=blkCell p6 3;have t4:=blkCell p6 4;have t5:=blkCell p6 5;simp at t0 t1 t2 t3 t4 t5;have c6:Chg [w.heap.size+1] W3 (W5.alloc (.cells #[.string key] 9)):=c1.trans (Chg.of_below (M:=[]) hB6) (fun b hm=>by cases hm)
 have HF:=hide' (And.intro n6 c6);generalize W5.alloc (.cells #[.string key] 9)=W6 at*;clear p1 c1 z1 hB6 p6 n6 c6 a2 b0 b1 b2 hkd r0 r1 r2 r3 r4 r5 f0 f1 f2 f3 f4 f5;go_wp2;refine bodyPost_ret (v:= .agg #[.int .i64 k,.slice (some ⟨W3.heap.size,0,none⟩) 1 1,.string val,.string ⟨#[]⟩,.bool false,.int .i64 0]) (by simp[results,Tryz.results162,go_sem,t0,t1,t2,t3,t4,t5]) rfl ⟨W3.heap.size,by omega,rfl,HF.out.1,?_⟩;have c6:=HF.out.2;exact⟨c6.os.trans hBB.os,c6.tape.trans hBB.tape,c6.output.trans hBB.output,Nat.le_trans hBB.size c6.size,fun b hb=>(c6.block b (by omega) (by simp;omega)).trans (hBB.block b hb)⟩
attribute [local go_sem] Oper.semAt_some
def heldLen (w:World)(D:Nat):Nat:=
 match w.cell? ⟨D,1,none⟩,w.cell? ⟨D,2,none⟩with
 |some (.slice _ n _),some (.int _ u)=>n-u.toNat
 |_,_=>0
theorem RdrAt.len {W:World}{D t:Nat}{hb:Option Nat}{s:St}(R:RdrAt W D hb t s):heldLen W D=s.held.length:=by
 obtain⟨⟨v,u,hD,H,hiv⟩,hne⟩:=R;obtain⟨d0,d1,d2,_⟩:=rdCells hD;unfold heldLen;rw[d1,d2];rcases H.form with⟨rfl,rfl,h3,_⟩|⟨g,n,c,all,rfl,_,_,h1,_,h2,h3,_⟩
 ·rw[h3];simp
 ·rw[h3,List.length_drop,h1];simp
def cmdA (c:Cmd)(kv:Value):Array Value:=#[.int .i64 c.kind,kv,.string c.val,.string c.word,.bool c.fatal,.int .i64 c.id]
variable {W W':World}{lo D t b:Nat}{v:Value}{cs:List Cmd}{hb:Option Nat}{s:St}{o:Obj}
def cmdCells:List Cmd→List Value→List Value
 |c::cs,kv::kvs=>(cmdA c kv).toList++cmdCells cs kvs
 |_,_=>[]
theorem cmdCells_snoc:∀(cs:List Cmd) (kvs:List Value) (c:Cmd) (kv:Value),kvs.length=cs.length→cmdCells (cs++[c]) (kvs++[kv])=cmdCells cs kvs++(cmdA c kv).toList:=by
 intro cs;induction cs with
 |nil=>
  intro kvs c kv h;have:kvs=[]:=List.length_eq_zero_iff.1 h;subst this;simp[cmdCells]
 |cons x cs ih=>
  intro kvs c kv h;cases kvs with
  |nil=>simp at h
  |cons y kvs=>
   simp only[List.cons_append,cmdCells]
   rw[ih kvs c kv (by simpa using h),List.append_assoc]
theorem cmdCells_get:∀(cs:List Cmd) (kvs:List Value) (i j:Nat) (c:Cmd) (kv:Value),cs[i]?=some c→kvs[i]?=some kv→j<6→(cmdCells cs kvs)[6*i+j]?=(cmdA c kv)[j]?:=by
 intro cs;induction cs with
 |nil=>intro kvs i j c kv h;simp at h
 |cons x cs ih=>
  intro kvs i j c kv h1 h2 hj;cases kvs with
  |nil=>simp at h2
  |cons y kvs=>
   simp only[cmdCells]
   cases i with
   |zero=>
    simp at h1 h2;subst h1;subst h2;rw[List.getElem?_append_left (by simp[cmdA];omega)];simp
   |succ i=>
    have e:6*(i+1)+j=(cmdA x y).toList.length+(6*i+j):=by simp[cmdA];omega
    rw[e,List.getElem?_append_right (by omega),Nat.add_sub_cancel_left];exact ih kvs i j c kv (by simpa using h1) (by simpa using h2) hj
def CmdsIn (W:World)(lo:Nat)(v:Value)(cs:List Cmd):Prop:=
 ∃kvs:List Value,kvs.length=cs.length∧W.ownsRow lo 36 6 v cs.length (cmdCells cs kvs)∧(∀kv∈kvs,∃a n c,kv= .slice a n c)∧∀(i:Nat) (c:Cmd) (kv:Value),cs[i]?=some c→kvs[i]?=some kv→KeysIn W lo kv c.keys
theorem CmdsIn.nil (W:World)(lo:Nat):CmdsIn W lo (.slice none 0 0) []:=⟨[],rfl,World.ownsRow_nil _ _ _ _,fun _ h=>(by cases h),fun i c kv h=>(by simp at h)⟩
theorem CmdsIn.keep (h:CmdsIn W lo v cs)(k:∀b (Z:Array Value) (T:Nat),W.heap[b]?=some (.cells Z T (0,0))→(T=36∨T=9)→lo≤b→W'.heap[b]?=W.heap[b]?):CmdsIn W' lo v cs:=by
 obtain⟨kvs,h1,⟨h2,h3⟩,hf,h4⟩:=h;refine⟨kvs,h1,⟨h2,?_⟩,hf,fun i c kv hc hkv=>(h4 i c kv hc hkv).other (Nat.le_refl _) (fun b c Z hZ _ hl=>k b Z 9 hZ (.inr rfl) hl)⟩;rcases h3 with h3|⟨g,cap,cur,e,h5,h6,h7⟩
 ·exact .inl h3
 ·exact .inr ⟨g,cap,cur,e,h5,(k g cur 36 h6 (.inl rfl) h5).trans h6,h7⟩
theorem CmdsIn.below (h:CmdsIn W lo v cs)(hb:Below W.heap.size W W'):CmdsIn W' lo v cs:=h.keep (fun b Z T hZ _ _=>hb.block b (blkLt hZ))
theorem RdrAt.apartO (R:RdrAt W D hb t s)(hZ:W.heap[b]?=some o)(h1:∀Z f,o≠ .cells Z 134 f)(h2:∀Z f,o≠ .cells Z 5 f):b≠D∧some b≠hb:=by
 obtain⟨⟨v,u,hD,⟨⟨all,⟨h3,h4⟩,h5⟩,hbk⟩,hiv⟩,hne⟩:=R;refine⟨?_,?_⟩
 ·rintro rfl;rw[hD]at hZ;exact h1 _ _ (Option.some.inj hZ).symm
 ·rintro rfl;rcases h4 with⟨rfl,_⟩|⟨g,cap,cur,rfl,_,hg,_⟩
  ·cases hbk
  ·cases hbk;rw[hg]at hZ;exact h2 _ _ (Option.some.inj hZ).symm
theorem RdrTo.keep {s2:St}(T:RdrTo W W' D hb t s2)(R:RdrAt W D hb t s)(hZ:W.heap[b]?=some o)(h1:∀Z f,o≠ .cells Z 134 f)(h2:∀Z f,o≠ .cells Z 5 f):W'.heap[b]?=some o:=by
 obtain⟨a1,a2⟩:=R.apartO hZ h1 h2;exact(T.turn.block b (blkLt hZ) a1 a2).trans hZ
theorem CmdsIn.snoc {v':Value}{c:Cmd}{ka:Option Addr}{kn kc:Nat}{kvs:List Value}(h1:kvs.length=cs.length)(hf:∀kv∈kvs,∃a n c,kv= .slice a n c)(h4:∀(i:Nat) (c:Cmd) (kv:Value),cs[i]?=some c→kvs[i]?=some kv→KeysIn W lo kv c.keys)(hrow:∀g,v.ownBlock=some g→∀Z f,W.heap[g]?≠some (.cells Z 9 f))(hk:KeysIn W lo (.slice ka kn kc) c.keys)(hg:W.grownBy W' v.ownBlock)(ho:W'.ownsRow lo 36 6 v' (cs.length+1) (cmdCells cs kvs++(cmdA c (.slice ka kn kc)).toList)):CmdsIn W' lo v' (cs++[c]):=by
 have keep:∀{kv:Value} {ss:List ByteArray},KeysIn W lo kv ss→KeysIn W' lo kv ss:=fun h=>h.other (Nat.le_refl _) (fun b c Z hZ _ _=>hg.block b (blkLt hZ) (fun e=>hrow b e.symm Z _ hZ))
 refine⟨kvs++[.slice ka kn kc],by simp[h1],?_,?_,?_⟩
 ·rw[cmdCells_snoc cs kvs c _ h1,List.length_append];exact ho
 ·intro kv hkv;rcases List.mem_append.1 hkv with h|h
  ·exact hf kv h
  ·rw[List.mem_singleton]at h;exact⟨_,_,_,h⟩
 ·intro i c' kv hc hkv;by_cases hi:i<cs.length
  ·rw[List.getElem?_append_left hi]at hc;rw[List.getElem?_append_left (by omega)]at hkv;exact keep (h4 i c' kv hc hkv)
  ·have hi2:i=cs.length:=by
    have:=(List.getElem?_eq_some_iff.1 hc).1;simp at this;omega
   subst hi2;rw[List.getElem?_append_right (Nat.le_refl _)]at hc;rw[←h1,List.getElem?_append_right (Nat.le_refl _)]at hkv;simp at hc hkv;subst hc;subst hkv;exact keep hk
theorem info36:∃i z,Tryz.prog.info? 36=some i∧i.zero=some z∧i.size=6∧i.bytes=80∧z.cells.size=6:=by
 have h:(Tryz.prog.info? 36).map (fun i=>(i.zero,i.size,i.bytes))=some (some (.agg #[.int .i64 0,.slice none 0 0,.string ⟨#[]⟩,.string ⟨#[]⟩,.bool false,.int .i64 0]),6,80):=by kernel_rfl
 cases hi:Tryz.prog.info? 36 with
 |none=>rw[hi]at h;cases h
 |some i=>
  rw[hi]at h;simp only[Option.map_some,Option.some.injEq,Prod.mk.injEq]at h;exact⟨i,_,rfl,h.1,h.2.1,h.2.2,rfl⟩
set_option maxHeartbeats 1000000
def dT (d:Int)(t:Nat):Prop:=(d=1∧t=160)∨(d=2∧t=161)∨(d=3∧t=162)
theorem readRd_any (D t:Nat)(d:Int)(hd:dT d t):∀W hb s,RdrAt W D hb t s→s.held.length≤140737488355328→Calls Tryz.prog 121 #[.pointer (some ⟨D,0,none⟩)] W fun e w'=>ReadOut W w' D hb t s (readR d s.held) e:=by
 intro W hb s R hs;rcases hd with⟨rfl,rfl⟩|⟨rfl,rfl⟩|⟨rfl,rfl⟩
 ·exact readRd1 D hb s W R hs
 ·exact readRd2 D hb s W R hs
 ·exact readRd3 D hb s W R hs
theorem takeS_len (s:St)(p:List UInt8):(takeS s p).held.length≤s.held.length+p.length:=by
 unfold takeS;split
 ·omega
 ·split
  ·have:=passL_len (s.held++p);show(passL (s.held++p)).1.length≤_;simp at this;omega
  ·simp
def tyOf (d:Int):Nat:=if d=1 then 160 else if d=2 then 161 else 162
theorem dT_ty {d:Int}(h:d=1∨d=2∨d=3):dT d (tyOf d):=by
 rcases h with rfl|rfl|rfl
 ·exact .inl ⟨rfl,rfl⟩
 ·exact .inr (.inl ⟨rfl,rfl⟩)
 ·exact .inr (.inr ⟨rfl,rfl⟩)
theorem decoder_any (d:Int)(w:World)(hd:d=1∨d=2∨d=3):Calls Tryz.prog 43 #[.int .i64 d] w fun e w'=>e= .returned (.tuple #[.pointer (some ⟨w.heap.size,0,none⟩),.int .i64 0])∧w'=w.alloc (rdO (tyOf d) (.slice none 0 0) 0 false false):=by
 rcases hd with rfl|rfl|rfl;all_goals
  go_enter Tryz.func43,Tryz.ntmps43
  go_wp2
  go_ret2
  exact⟨rfl,rfl⟩
set_option maxHeartbeats 1000000
set_option maxRecDepth 100000
variable {w:World}{v:Value}{bs:List UInt8}
theorem run_append_strF (w:World)(v:Value)(n:Nat)(xs:List Value)(ty:TypeId)(hown:World.ownsRowF w 0 5 1 v n xs)(s:ByteArray)(hb:n+s.size≤140737488355328):∃v' w',(Builtin.append_ #[80,9] ty #[v,.string s]).run Tryz.prog w= .ok v' w'∧World.ownsRowF w' 0 5 1 v' (n+s.size) (xs++Lib.strCells s)∧w.grownBy w' v.ownBlock∧(v'.ownBlock=v.ownBlock∨v'.ownBlock=some w.heap.size)∧(v= .slice none 0 0→s.size=0→v'= .slice none 0 0):=by
 obtain⟨i5,hi,hz0,hz1,hz2⟩:=info5;obtain⟨v',w',hr,h2,h3,h4⟩:=Lib.run_append_own_stringF (P:=Tryz.prog) w 0 80 9 ty 5 i5 Tryz.underlying80 Tryz.underlying9 hi hz0 hz1 hz2 v n xs hown s (by unfold maxLen;omega) hb (Nat.zero_le _);refine⟨v',w',hr,h2,h3,?_,fun h5 h6=>h4.2 ⟨h5,h6⟩⟩;have hcells:=fun g (hg:v.ownBlock=some g)=>hown.cells hg
 obtain⟨hl,⟨rfl,rfl⟩|⟨g,cap,cur,fz,rfl,hg0,hg,hfz,hnc,hcm,hcs,htk⟩⟩:=hown
 ·by_cases h0:s.size=0
  ·left;rw[h4.2 ⟨rfl,h0⟩]
  ·right;rw[run_append_nil_string (P:=Tryz.prog) w 80 9 ty 5 i5 _ Tryz.underlying80 Tryz.underlying9 hi hz0 s (by omega) (by omega) (by rw[hz2];omega)]at hr;simp only[Result.ok.injEq]at hr;rw[←hr.1];rfl
 ·by_cases hroom:n+s.size≤cap
  ·left;rw[Lib.run_append_room_stringF (P:=Tryz.prog) w 80 9 ty 5 i5 Tryz.underlying80 Tryz.underlying9 hi hz1 g n cap cur fz hg (by simpa using hfz) s hroom (by omega)]at hr;simp only[Result.ok.injEq]at hr;rw[←hr.1];rfl
  ·right;rw[Lib.run_append_grow_string (P:=Tryz.prog) w 80 9 ty 5 i5 _ Tryz.underlying80 Tryz.underlying9 hi hz0 ⟨g,0,none⟩ n cap xs (by rw[hz1];omega) (hcells g rfl) s (by omega) (by omega) (by rw[hz2];exact growslice_fits (by omega) (by omega))]at hr;simp only[Result.ok.injEq]at hr;rw[←hr.1];rfl
theorem wpList_append_strF (w:World){ops:Array Oper}{rest:List Oper}{o:Oper}{a:Act}{Q:Exit→Act→World→Prop}(hgd:o.guard=none)(sl x:Operand)(ho:o.op= .call {callee:= .builtin .append,args:=#[sl,x],argTypes:=#[80,9]})(v:Value)(n:Nat)(xs:List Value)(hs:a.eval sl=v)(hown:World.ownsRowF w 0 5 1 v n xs)(s:ByteArray)(hx:a.eval x= .string s)(hb:n+s.size≤140737488355328)(h:∀v' w',World.ownsRowF w' 0 5 1 v' (n+s.size) (xs++Lib.strCells s)→w.grownBy w' v.ownBlock→(v'.ownBlock=v.ownBlock∨v'.ownBlock=some w.heap.size)→(v= .slice none 0 0→s.size=0→v'= .slice none 0 0)→wpList Tryz.prog ops Q rest (a.put o.dst v') w'):wpList Tryz.prog ops Q (o::rest) a w:=by
 refine wpList_plain hgd fun K hK=>?_
 obtain⟨v',w',hr,h2,h3,h4,h5⟩:=run_append_strF w v n xs o.type hown s hb;unfold Oper.wp execOp;simp only[ho,resolve,invoke,builtin,Sem.run_bind,Sem.run_pure,Result.andThen_ok,List.map_toArray,List.map_cons,List.map_nil,hs,hx,hr]
 exact hK _ _ (h v' w' h2 h3 h4 h5)
def BldRow (w:World)(v:Value)(bs:List UInt8):Prop:=World.ownsRowF w 0 5 1 v bs.length (Lib.byteCells bs)∧(bs=[]→v= .slice none 0 0)
theorem BldRow.nil (w:World):BldRow w (.slice none 0 0) []:=⟨World.ownsRowF_nil _ _ _ _,fun _=>rfl⟩
theorem BldRow.form (h:BldRow w v bs):∃a c,v= .slice a bs.length c:=by
 rcases h.1.2 with⟨h,h0⟩|⟨g,cap,cur,fz,h,_⟩
 ·exact⟨none,0,by rw[h,h0]⟩
 ·exact⟨_,_,h⟩
theorem BldRow.blk (h:BldRow w v bs){g:Nat}(hg:v.ownBlock=some g):∃cur fz,w.heap[g]?=some (.cells cur 5 fz):=by
 rcases h.1.2 with⟨rfl,_⟩|⟨g',cap,cur,fz,rfl,_,hb,_⟩
 ·cases hg
 ·cases hg;exact⟨cur,fz,hb⟩
theorem BldRow.other {w':World}(h:BldRow w v bs)(k:∀g,v.ownBlock=some g→w'.heap[g]?=w.heap[g]?):BldRow w' v bs:=by
 obtain⟨⟨h1,h2|⟨g,cap,cur,fz,rfl,h3,h4,h5⟩⟩,h6⟩:=h
 ·exact⟨⟨h1,.inl h2⟩,h6⟩
 ·exact⟨⟨h1,.inr ⟨g,cap,cur,fz,rfl,h3,(k g rfl).trans h4,h5⟩⟩,h6⟩
def bldPut (Z:Array Value)(b o:Nat)(v:Value):Array Value:=(Z.setIfInBounds o (.pointer (some ⟨b,o,none⟩))).setIfInBounds (o+1) v
theorem bld_check (b o T n:Nat)(Z:Array Value)(w:World)(hb:w.heap[b]?=some (.cells Z T (0,0)))(hn:Z.size=n)(ho:o<n)(hlies:liesAt Tryz.prog Tryz.prog.depth T (n / Tryz.prog.cellsOf T) o 123 1=true)(h0:Z[o]?=some (.pointer none)∨Z[o]?=some (.pointer (some ⟨b,o,none⟩))):Calls Tryz.prog 159 #[.pointer (some ⟨b,o,none⟩)] w fun e w'=>e= .returned (.tuple #[])∧w'.heap[b]?=some (.cells (Z.setIfInBounds o (.pointer (some ⟨b,o,none⟩))) T (0,0))∧Chg [b] w w'∧w'.heap.size=w.heap.size:=by
 rcases h0 with h0|h0
 ·refine(bld_check_fresh b o T n Z w hb hn ho hlies h0).mono ?_;rintro e w' ⟨rfl,rfl⟩;exact⟨rfl,blkSet hb _,(Chg.refl [b] w).set (p:=⟨b,o,none⟩) (.inl (by simp)) _,by simp⟩
 ·refine(bld_check_used b o w ((blkCell hb o).trans h0)).mono ?_;rintro e w' ⟨rfl,rfl⟩;refine⟨rfl,?_,Chg.refl _ _,rfl⟩;rw[hb];have:Z.setIfInBounds o (.pointer (some ⟨b,o,none⟩))=Z:=by
   apply Array.ext_getElem?;intro i;rw[Array.getElem?_setIfInBounds];split
   ·rename_i e;subst e;rw[h0];simp;omega
   ·rfl
  rw[this]
theorem bld_write (b o T n:Nat)(Z:Array Value)(v:Value)(bs:List UInt8)(s:ByteArray)(w:World)(hb:w.heap[b]?=some (.cells Z T (0,0)))(hn:Z.size=n)(ho:o+1<n)(hlies:liesAt Tryz.prog Tryz.prog.depth T (n / Tryz.prog.cellsOf T) o 123 1=true)(hT:T≠5)(h0:Z[o]?=some (.pointer none)∨Z[o]?=some (.pointer (some ⟨b,o,none⟩)))(h1:Z[o+1]?=some v)(hR:BldRow w v bs)(hlen:bs.length+s.size≤140737488355328):Calls Tryz.prog 128 #[.pointer (some ⟨b,o,none⟩),.string s] w fun e w'=>(∃v,e= .returned v)∧∃v',w'.heap[b]?=some (.cells (bldPut Z b o v') T (0,0))∧BldRow w' v' (bs++s.data.toList)∧Chg (b::v.ownBlock.toList) w w'∧(v'.ownBlock=v.ownBlock∨∃g,v'.ownBlock=some g∧w.heap.size≤g):=by
 have HC:=hide' (bld_check b o T n Z w hb hn (by omega) hlies h0);have hvb:v.ownBlock≠some b:=fun e=>by
  obtain⟨cur,fz,hc⟩:=hR.blk e;rw[hb]at hc;cases hc;exact hT rfl
 have HR:=hide' (And.intro hR hvb);have hZ1:(Z.setIfInBounds o (.pointer (some ⟨b,o,none⟩)))[o+1]?=some v:=by rw[Array.getElem?_setIfInBounds];simp;exact h1
 have HZ:=hide' hZ1;have hL:bs.length+s.size≤140737488355328:=hlen;clear hb hR h0 h1 hvb hZ1;go_enter Tryz.func128,Tryz.ntmps128;go_wp2_with fail
 go_at_call 159;refine HC.out.mono ?_;rintro e w1 ⟨rfl,hb1,c1,hs1⟩;have d0:=(blkCell hb1 (o+1)).trans HZ.out;have hR1:BldRow w1 v bs:=HR.out.1.other (fun g hg=>by
  obtain⟨cur,fz,hc⟩:=HR.out.1.blk hg;exact c1.block g (blkLt hc) (by simp;intro e;exact HR.out.2 (by rw[hg,e])))
 obtain⟨va,vc,hv⟩:=hR1.form;subst hv;have hlt:=blkLt hb1;have H1:=hide' (And.intro hb1 (And.intro c1 (And.intro hs1 hR1)));clear hb1 c1 hs1 hR1 HC;go_wp2_with (first
  |(at_builtin;refine wpList_append_strF _ rfl _ _ rfl (.slice va bs.length vc) bs.length (Lib.byteCells bs) rfl H1.out.2.2.2.1 s rfl hL ?_;intro v' w2 hown hgrow hat hnl;have hw2:BldRow w2 v' (bs++s.data.toList):=(by refine⟨?_,fun h=>hnl (H1.out.2.2.2.2 (List.append_eq_nil_iff.1 h).1) (by rw[←len_size,(List.append_eq_nil_iff.1 h).2];rfl)⟩;rw[List.length_append,len_size];rw[show Lib.byteCells (bs++s.data.toList)=Lib.byteCells bs++Lib.strCells s from by simp[Lib.byteCells,Lib.strCells]];exact hown);obtain⟨wa,wc,hwf⟩:=hw2.form;rw[List.length_append,len_size]at hwf;subst hwf;have hb2:=(hgrow.block b hlt (fun e=>HR.out.2 e.symm)).trans H1.out.1;have d2:=(blkCell hb2 (o+1)).trans HZ.out;have f2:=blkFree hb2 (o+1);have hlt2:=blkLt hb2;have H2:=hide' (And.intro hb2 (And.intro hw2 (And.intro hgrow hat)));clear hb2 hw2 hgrow hat hown hnl)
  |fail)
 go_ret2;obtain⟨hb1,c1,hs1,hR1⟩:=H1.out;obtain⟨hb2,hw2,hgrow,hat⟩:=H2.out;refine⟨⟨_,rfl⟩,_,blkSet hb2 _,hw2.other (fun g hg=>Below.heap_setCell w2 ⟨b,o+1,none⟩ _ g (fun e=>?_)),?_,?_⟩
 ·obtain⟨cur,fz,hc⟩:=hw2.blk hg;rw[show g=b from e,hb2]at hc;cases hc;exact hT rfl
 ·refine Chg.set ?_ (.inl (by simp)) _;refine(c1.more (M':=b::(Value.slice va bs.length vc).ownBlock.toList) (by simp)).grown hgrow (fun g hg=> .inl ?_);rw[hg];simp
 ·rcases hat with h|h
  ·exact .inl h
  ·exact .inr ⟨_,h,by omega⟩
set_option maxHeartbeats 1000000
set_option maxRecDepth 100000
theorem froze_row {w:World}{g n cap:Nat}{xs:List Value}(h:World.ownsRowF w 0 5 1 (.slice (some ⟨g,0,none⟩) n cap) n xs):World.ownsRowF (w.freeze ⟨g,0,none⟩ n) 0 5 1 (.slice (some ⟨g,0,none⟩) n cap) n xs:=by
 unfold World.freeze;split
 ·exact h
 ·rename_i hn0;refine⟨h.1,?_⟩;rcases h.2 with⟨hv,_⟩|⟨g',cap',cur,fz,hv,hbg,hg,hfz,rest⟩
  ·cases hv
  ·injection hv with ha _ hcap;injection ha with ha;injection ha with hgg _ _;subst hgg;subst hcap;obtain⟨lo,hi⟩:=fz;refine .inr ⟨g,_,cur,(if lo==hi then(0,0+n)else(min lo 0,max hi (0+n))),rfl,hbg,?_,?_,rest⟩
   ·simp[Array.getElem?_modify,hg]
   ·simp only at hfz;split<;>simp<;>omega
theorem chg_freeze (w:World)(g n:Nat):Chg [g] w (w.freeze ⟨g,0,none⟩ n):=by
 unfold World.freeze;split
 ·exact Chg.refl _ _
 ·refine⟨rfl,rfl,rfl,by simp,fun k hk hn=>?_⟩;simp only[Array.getElem?_modify]
  rw[if_neg (fun e=>hn (by simp[←e]))]
theorem bld_string_nil (b o:Nat)(w:World)(h1:w.cell? ⟨b,o+1,none⟩=some (.slice none 0 0)):Calls Tryz.prog 57 #[.pointer (some ⟨b,o,none⟩)] w fun e w'=>e= .returned (.string ⟨#[]⟩)∧Below w.heap.size w w':=by
 have hlt:=World.block_lt_of_cell? w ⟨b,o+1,none⟩ h1;have hUS:∀(W:World) (q:Option Addr),(Builtin.unsafeString_ #[173,3] 9 #[.pointer q,.int .i64 0]).run Tryz.prog W= .ok (.string .empty) W:=fun W q=>Lib.run_unsafeString_none W _ _ _ q
 have c1:w.drew.cell? ⟨b,o+1,none⟩=some (.slice none 0 0):=h1;have hSD:(Builtin.unsafeSliceData_ #[80] 173 #[.slice none 0 0]).run Tryz.prog w.drew= .ok (.pointer none) w.drew:=rfl;have mixed:Tryz.prog.follows .mixedOrders=true:=by kernel_rfl
 go_enter Tryz.func57,Tryz.ntmps57;go_wp2;go_region_o
 all_goals(go_wp2;go_ret;exact⟨rfl,Below.drew (Below.refl _ w)⟩)
theorem bld_string_some (b o g cap:Nat)(l:List UInt8)(w:World)(h1:w.cell? ⟨b,o+1,none⟩=some (.slice (some ⟨g,0,none⟩) l.length cap))(h0:l≠[])(hown:World.ownsRowF w 0 5 1 (.slice (some ⟨g,0,none⟩) l.length cap) l.length (Lib.byteCells l)):Calls Tryz.prog 57 #[.pointer (some ⟨b,o,none⟩)] w fun e w'=>e= .returned (.string ⟨l.toArray⟩)∧w'=w.drew.freeze ⟨g,0,none⟩ l.length:=by
 have hlt:=World.block_lt_of_cell? w ⟨b,o+1,none⟩ h1;have hl0:l.length≠0:=by simpa using h0
 obtain⟨cur,fz,hg,hnc,hcm,hcs⟩:∃cur fz,w.heap[g]?=some (.cells cur 5 fz)∧l.length≤cap∧cap≤maxLen∧cur.size=cap*1:=by
  rcases hown.2 with⟨hv,_⟩|⟨g',cap',cur,fz,hv,_,hg,_,h4,h5,h6,_⟩
  ·cases hv
  ·cases hv;exact⟨cur,fz,hg,h4,h5,h6⟩
 have c1:w.drew.cell? ⟨b,o+1,none⟩=some (.slice (some ⟨g,0,none⟩) l.length cap):=h1;have hSD:(Builtin.unsafeSliceData_ #[80] 173 #[.slice (some ⟨g,0,none⟩) l.length cap]).run Tryz.prog w.drew= .ok (.pointer (some ⟨g,0,none⟩)) w.drew:=Lib.run_unsafeSliceData_row _ _ _ _ _ _ (by omega);have hUS:(Builtin.unsafeString_ #[173,3] 9 #[.pointer (some ⟨g,0,none⟩),.int .i64 l.length]).run Tryz.prog w.drew= .ok (.string ⟨l.toArray⟩) (w.drew.freeze ⟨g,0,none⟩ l.length):=by
  refine Lib.run_unsafeString_row w.drew 173 3 9 5 Tryz.underlying173 (by kernel_rfl) g cur.size (by have hg':w.drew.heap[g]?=some (.cells cur 5 fz):=hg;simp[World.shape?,hg']) l h0 (by omega) (by unfold maxLen at hcm;omega) ?_;intro j x hx;have:=hown.cells (g:=g) rfl j (.int .u8 x.toNat) (by simp[Lib.byteCells,hx]);exact this
 clear hown hg hcs hcm hnc;have mixed:Tryz.prog.follows .mixedOrders=true:=by kernel_rfl
 go_enter Tryz.func57,Tryz.ntmps57;go_wp2;go_region_o
 all_goals(go_wp2;go_ret;exact⟨rfl,rfl⟩)
theorem bld_string (b o:Nat)(v:Value)(bs:List UInt8)(w:World)(h1:w.cell? ⟨b,o+1,none⟩=some v)(hR:BldRow w v bs):Calls Tryz.prog 57 #[.pointer (some ⟨b,o,none⟩)] w fun e w'=>e= .returned (.string (mkB bs))∧BldRow w' v bs∧Chg v.ownBlock.toList w w':=by
 by_cases h:bs=[]
 ·subst h;have hv:=hR.2 rfl;subst hv;refine(bld_string_nil b o w h1).mono ?_;rintro e w' ⟨rfl,hb⟩;exact⟨rfl,hR.other (fun g hg=>by cases hg),Chg.of_below hb⟩
 ·obtain⟨g,cap,hv⟩:∃g cap,v= .slice (some ⟨g,0,none⟩) bs.length cap:=by
   rcases hR.1.2 with⟨_,h0⟩|⟨g,cap,_,_,hv,_⟩
   ·exact absurd (List.eq_nil_of_length_eq_zero h0) h
   ·exact⟨g,cap,hv⟩
  subst hv;refine(bld_string_some b o g cap bs w h1 h hR.1).mono ?_;rintro e w' ⟨rfl,rfl⟩;exact⟨rfl,⟨froze_row (w:=w.drew) hR.1,hR.2⟩,(chg_freeze w.drew g bs.length).undrew⟩
set_option maxHeartbeats 1000000
set_option maxRecDepth 100000
def sentB (k:Int)(key val:ByteArray)(id:Nat):ByteArray:=headB 1 k key.size val.size id++key++val
theorem toServer_any (k:Int)(b:Nat)(key val:ByteArray)(id:Nat)(w:World)(hk:k=1∨k=2∨k=3)(hb:w.heap[b]?=some (.cells #[.string key] 9 (0,0)))(hks:key.size≤8)(hv:val.size≤40)(hid:id<65536):Calls Tryz.prog 161 #[.agg #[.int .i64 k,.slice (some ⟨b,0,none⟩) 1 1,.string val,.string ⟨#[]⟩,.bool false,.int .i64 0],.int .i64 (id:Int)] w fun e w'=>e= .returned (.string (sentB k key val id))∧Below w.heap.size w w':=by
 have HF:=hide' (fun o=>frAsk k b 0 1 key val ⟨#[]⟩ false 0 (id:Int) (w.alloc o) hk (by rw[World.size_alloc];have:=blkLt hb;omega) (blkCell ((Below.heap_alloc _ _ _ (blkLt hb)).trans hb) 0) hks hv (by omega) (by omega));have HB:Hid (∀o,Below w.heap.size w (w.alloc o)):=fun o=>(Below.refl _ _).alloc (Nat.le_refl _) o
 unfold cmdV6 at HF;unfold sentB;generalize headB 1 k key.size val.size id++key++val=out at*;clear hb;go_enter Tryz.func161,Tryz.ntmps161;go_wp2_with fail
 go_at_call 170;refine(HF.out _).mono ?_;rintro e w1 ⟨rfl,h1⟩;have H1:=hide' h1;clear h1;go_wp2;go_ret;exact⟨rfl,(HB.out _).trans (H1.out.mono (HB.out _).size)⟩
theorem wrapid (id:Nat)(h:id<65536):IntKind.i64.wrap (id:Int)=(id:Int):=by rw[IntKind.wrap_i64];omega
theorem lies143:liesAt Tryz.prog Tryz.prog.depth 143 (9 / Tryz.prog.cellsOf 143) 7 123 1=true:=by kernel_rfl
theorem lies125:liesAt Tryz.prog Tryz.prog.depth 125 (5 / Tryz.prog.cellsOf 125) 3 123 1=true:=by kernel_rfl
variable {b:Nat}{W W':World}
structure SrvS where
 next:Nat
 sent:List UInt8
structure SvI where
 S:Nat
 m:Nat
 iv:Value
 iu:Int
 ip:Bool
 ic:Bool
 bp:Value
 bv:Value
 l:List (Nat×Value)
def SvI.foot (v:SvI):List Nat:=v.S::v.m::v.bv.ownBlock.toList
structure SvOk (W:World)(v:SvI)(s:SrvS):Prop where
 blk:W.heap[v.S]?=some (svO false s.next v.m v.iv v.iu v.ip v.ic v.bp v.bv)
 mp:MapAt W v.m v.l
 pv:∀p∈v.l,∃C q i,p.2=partV C q i
 lt:∀p∈v.l,p.1<s.next
 bpv:v.bp= .pointer none∨v.bp= .pointer (some ⟨v.S,7,none⟩)
 row:BldRow W v.bv s.sent
theorem mem_own {v:Value}(h:b∈v.ownBlock.toList):v.ownBlock=some b:=by
 cases ho:v.ownBlock with
 |none=>rw[ho]at h;cases h
 |some g=>rw[ho]at h;simp at h;rw[h]
theorem SvOk.old {v:SvI}{s:SrvS}(h:SvOk W v s):∀b∈v.foot,b<W.heap.size:=by
 intro b hb;rcases List.mem_cons.1 hb with rfl|hb
 ·exact blkLt h.blk
 rcases List.mem_cons.1 hb with rfl|hb
 ·exact h.mp.lt
 ·obtain⟨cur,fz,hc⟩:=h.row.blk (mem_own hb);exact blkLt hc
theorem SvOk.keep {v:SvI}{s:SrvS}(h:SvOk W v s)(k:∀b∈v.foot,W'.heap[b]?=W.heap[b]?):SvOk W' v s:=
 ⟨(k _ (by simp[SvI.foot])).trans h.blk,h.mp.other (k _ (by simp[SvI.foot])),h.pv,h.lt,h.bpv,h.row.other (fun g hg=>k g (by simp[SvI.foot,hg]))⟩
structure SvsAt (W:World)(vs:List SvI)(ss:List SrvS):Prop where
 len:vs.length=ss.length
 ok:∀(j:Nat) (v:SvI) (s:SrvS),vs[j]?=some v→ss[j]?=some s→SvOk W v s
 ap:∀(i j:Nat) (v u:SvI),i≠j→vs[i]?=some v→vs[j]?=some u→∀b∈v.foot,b∉u.foot
def feetV (vs:List SvI):List Nat:=(vs.map SvI.foot).flatten
theorem mem_feetV {vs:List SvI}:b∈feetV vs↔∃(j:Nat) (v:SvI),vs[j]?=some v∧b∈v.foot:=by
 unfold feetV;rw[List.mem_flatten];constructor
 ·rintro ⟨l,hl,hb⟩;obtain⟨v,hv,rfl⟩:=List.mem_map.1 hl;obtain⟨j,hj,e⟩:=List.mem_iff_getElem.1 hv;exact⟨j,v,by rw[List.getElem?_eq_getElem hj,e],hb⟩
 ·rintro ⟨j,v,hv,hb⟩;exact⟨v.foot,List.mem_map.2 ⟨v,List.mem_of_getElem? hv,rfl⟩,hb⟩
theorem SvsAt.get {vs:List SvI}{ss:List SrvS}(h:SvsAt W vs ss){j:Nat}(hj:j<vs.length):∃v s,vs[j]?=some v∧ss[j]?=some s∧SvOk W v s:=by
 have hj2:j<ss.length:=by rw[←h.len];exact hj
 exact⟨_,_,List.getElem?_eq_getElem hj,List.getElem?_eq_getElem hj2,h.ok j _ _ (List.getElem?_eq_getElem hj) (List.getElem?_eq_getElem hj2)⟩
theorem SvsAt.old {vs:List SvI}{ss:List SrvS}(h:SvsAt W vs ss):∀b∈feetV vs,b<W.heap.size:=by
 intro b hb;obtain⟨j,v,hv,hbv⟩:=mem_feetV.1 hb;obtain⟨v',s,hv',hs,hok⟩:=h.get (List.getElem?_eq_some_iff.1 hv).1;rw[hv]at hv';cases hv';exact hok.old b hbv
theorem SvsAt.keep {vs:List SvI}{ss:List SrvS}(h:SvsAt W vs ss)(k:∀b∈feetV vs,W'.heap[b]?=W.heap[b]?):SvsAt W' vs ss:=
 ⟨h.len,fun j v s hv hs=>(h.ok j v s hv hs).keep (fun b hb=>k b (mem_feetV.2 ⟨j,v,hv,hb⟩)),h.ap⟩
theorem sentB_size (k:Int)(key val:ByteArray)(id:Nat)(hk:key.size≤8)(hv:val.size≤40):(sentB k key val id).data.toList.length≤1000:=by
 have h7:(headB 1 k key.size val.size id).size=7:=by unfold headB;rw[strOfNums_size];rfl
 have:(sentB k key val id).size=(headB 1 k key.size val.size id).size+key.size+val.size:=by unfold sentB;rw[ByteArray.size_append,ByteArray.size_append]
 rw[len_size];omega
def juO (sv pt win:Int)(cv rv:Value):Obj:= .cells #[.int .i64 sv,.int .i64 pt,.int .i64 win,cv,rv] 129 (0,0)
theorem juCells {w:World}{X:Nat}{sv pt win:Int}{cv rv:Value}(h:w.heap[X]?=some (juO sv pt win cv rv)):w.cell? ⟨X,0,none⟩=some (.int .i64 sv)∧w.cell? ⟨X,1,none⟩=some (.int .i64 pt)∧w.cell? ⟨X,2,none⟩=some (.int .i64 win)∧w.cell? ⟨X,3,none⟩=some cv∧w.cell? ⟨X,4,none⟩=some rv∧∀j,w.frozen? ⟨X,j,none⟩=false:=
 ⟨blkCell h 0,blkCell h 1,blkCell h 2,blkCell h 3,blkCell h 4,blkFree h⟩
theorem SvsAt.apart {W:World}{vs:List SvI}{ss:List SrvS}(h:SvsAt W vs ss){b T:Nat}{Z:Array Value}{f:Nat×Nat}(hb:W.heap[b]?=some (.cells Z T f))(h1:T≠143)(h2:T≠5):b∉feetV vs:=by
 intro hm;obtain⟨j,v,hv,hbv⟩:=mem_feetV.1 hm;obtain⟨v',s,hv',hs,hok⟩:=h.get (List.getElem?_eq_some_iff.1 hv).1;rw[hv]at hv';cases hv';rcases List.mem_cons.1 hbv with rfl|hbv
 ·have:=hok.blk;rw[hb]at this;unfold svO at this;simp at this;exact h1 this.2.1
 rcases List.mem_cons.1 hbv with rfl|hbv
 ·obtain⟨es,c,h3,_⟩:=hok.mp;rw[hb]at h3;cases h3
 ·obtain⟨cur,fz,hc⟩:=hok.row.blk (mem_own hbv);rw[hb]at hc;simp at hc;exact h2 hc.2.1
end Go.Proofs.YtlonjggfnleolaaGreatDoor
namespace Go.Proofs.YtlonjggfnleolaaGreatDoor
open Go.RowKit Go.Shelf Go.Conc
set_option linter.unusedVariables false
variable {v z:Value}{c cap s r:Nat}{buf:Array Value}{tm:Bool}
def RegWp (P:Program)(ops:Array Oper)(l:List Nat)(Q:Exit→Act→World→Prop)(a:Act)(w:World):Prop:=
 ∀(b:Frame) (k:List Item) (cs:List Frame),∃e a' w',Q e a' w'∧Arrives P (lone (b.at a (.inRegion ops l::k)) cs w) b k cs e a' w'
section
variable {P:Program}{ops:Array Oper}{Q:Exit→Act→World→Prop}{a:Act}{w w':World}{i:Nat}{rest:List Nat}{o:Oper}
theorem wp_of_reg {id:Nat}(h:RegWp P ops (List.range ops.size) Q a w):(Code.region id ops false).wp P Q a w:=
 fun b k cs=>let ⟨e,a',w',q,r⟩:=h b k cs;⟨e,a',w',q,.of_steps (.one step_region) r⟩
theorem reg_end (h:Q .normal a w):RegWp P ops [] Q a w:=fun b k cs=>⟨.normal,a,w,h,.one step_region_end⟩
theorem reg_ops {l:List Nat}(h:wpOps P ops Q l a w):RegWp P ops l Q a w:=fun b k cs=>wp_ops l a w h b k cs
theorem reg_list (l:List Oper)(k:Nat)(hl:∀j,l[j]?=ops[k+j]?)(h:wpList P ops Q l a w):RegWp P ops (List.range' k l.length) Q a w:=reg_ops (by rw[wpOps_eq_wpList l k hl];exact h)
theorem reg_drop (k:Nat){is:List Nat}(hi:is=List.range' k (ops.toList.drop k).length)(h:wpList P ops Q (ops.toList.drop k) a w):RegWp P ops is Q a w:=by
 rw[hi];exact reg_list _ k (fun j=>by simp) h
theorem reg_value (ho:ops[i]?=some o)(hw:Region.wanted o (yielded ops a.tmps)=true)(hr:(execOp a.eval o).run P w= .ok (.value v) w')(h:RegWp P ops rest Q (a.put o.dst v) w'):RegWp P ops (i::rest) Q a w:=fun b k cs=>by
 obtain⟨e,a',w'',hq,harr⟩:=h b k cs
 have hg:=stepG_op (P:=P) (b:=b) (k:=k) (cs:=cs) (w:=w) (rest:=rest) ho hw
 have hfin:(b.at a (.inRegion ops (i::rest)::k)).finish v=b.at (a.put o.dst v) (.inRegion ops rest::k):=by rw[Frame.finish_at,ho];rfl
 refine⟨e,a',w'',hq,.of_steps (.one (step_lone_go ?_)) harr⟩
 rw[hg,←hfin];simp[stepG.apply,hr]
theorem stepG_comm' {b:Frame}{k:List Item}{cs:List Frame}{cases:Array CommCase}{blocking:Bool}{shape:CommShape}(ho:ops[i]?=some o)(hw:Region.wanted o (yielded ops a.tmps)=true)(hr:(execOp a.eval o).run P w= .ok (.comm cases blocking shape) w'):∃es,stepG P true (G (b.at a (.inRegion ops (i::rest)::k)) cs) w= .comm (G (b.at a (.inRegion ops (i::rest)::k)) cs) cases blocking shape w' es:=by
 by_cases hk:b.kind= .early
 ·rw[stepG_oper ho hw];simp[stepG.apply,hr,G,Frame.at,hk,GStep.after]
 ·exact⟨_,stepG_comm ho hw hk hr⟩
theorem reg_recv {closed:Bool}(ho:ops[i]?=some o)(hw:Region.wanted o (yielded ops a.tmps)=true)(hr:(execOp a.eval o).run P w= .ok (.comm #[rcase c z] true (.recv false)) w)(hc:w.heap[c]?=some (.chan cap buf closed s r tm))(hb:0<buf.size)
 (h:RegWp P ops rest Q (a.put o.dst (buf.getD 0 undef)) (w.setChan c cap (buf.extract 1 buf.size) closed s (r+1) tm)):RegWp P ops (i::rest) Q a w:=fun b k cs=>by
 obtain⟨e,a',w'',hq,harr⟩:=h b k cs
 obtain⟨es,hg⟩:=stepG_comm' (b:=b) (k:=k) (cs:=cs) (rest:=rest) ho hw hr
 have hst:=step_lone_recv_buf false hg hc hb
 have hfin:∀v,(b.at a (.inRegion ops (i::rest)::k)).finish v=b.at (a.put o.dst v) (.inRegion ops rest::k):=fun v=>by rw[Frame.finish_at,ho];rfl
 rw[hfin]at hst
 exact⟨e,a',w'',hq,.of_steps (.one hst) harr⟩
theorem reg_send_room (ho:ops[i]?=some o)(hw:Region.wanted o (yielded ops a.tmps)=true)(hr:(execOp a.eval o).run P w= .ok (.comm #[scase c v z] false .select) w)(hc:w.heap[c]?=some (.chan cap buf false s r tm))(hb:buf.size<cap)
 (h:RegWp P ops rest Q (a.put o.dst (.tuple #[goInt 0,.bool false])) (w.setChan c cap (buf.push v) false (s+1) r tm)):RegWp P ops (i::rest) Q a w:=fun b k cs=>by
 obtain⟨e,a',w'',hq,harr⟩:=h b k cs
 obtain⟨es,hg⟩:=stepG_comm' (b:=b) (k:=k) (cs:=cs) (rest:=rest) ho hw hr
 have hst:=step_lone_select_send_room hg hc hb
 have hfin:∀v,(b.at a (.inRegion ops (i::rest)::k)).finish v=b.at (a.put o.dst v) (.inRegion ops rest::k):=fun v=>by rw[Frame.finish_at,ho];rfl
 rw[hfin]at hst
 exact⟨e,a',w'',hq,.of_steps (.one hst) harr⟩
theorem reg_send_full (ho:ops[i]?=some o)(hw:Region.wanted o (yielded ops a.tmps)=true)(hr:(execOp a.eval o).run P w= .ok (.comm #[scase c v z] false .select) w)(hc:w.heap[c]?=some (.chan cap buf false s r tm))(hb:cap≤buf.size)
 (h:RegWp P ops rest Q (a.put o.dst (.tuple #[goInt (-1),.bool false])) w):RegWp P ops (i::rest) Q a w:=fun b k cs=>by
 obtain⟨e,a',w'',hq,harr⟩:=h b k cs
 obtain⟨es,hg⟩:=stepG_comm' (b:=b) (k:=k) (cs:=cs) (rest:=rest) ho hw hr
 have hst:=step_lone_select_send_full hg hc hb
 have hfin:∀v,(b.at a (.inRegion ops (i::rest)::k)).finish v=b.at (a.put o.dst v) (.inRegion ops rest::k):=fun v=>by rw[Frame.finish_at,ho];rfl
 rw[hfin]at hst
 exact⟨e,a',w'',hq,.of_steps (.one hst) harr⟩
end
set_option maxHeartbeats 1000000
set_option maxRecDepth 100000
variable {W:World}{D t:Nat}{s:St}
theorem RdrAt.hbQ {b:Nat}(R:RdrAt W D (some b) t s):∃Z,W.heap[b]?=some (.cells Z 5 (0,0)):=by
 obtain⟨⟨v,u,hD,⟨⟨all,⟨h1,h2⟩,h3⟩,hbk⟩,_⟩,_⟩:=R;rcases h2 with⟨rfl,_⟩|⟨g,cap,cur,rfl,_,hg,_⟩
 ·cases hbk
 ·cases hbk;exact⟨cur,hg⟩
theorem RdrAt.dQ {hb:Option Nat}(R:RdrAt W D hb t s):∃Z,W.heap[D]?=some (.cells Z 134 (0,0)):=by
 obtain⟨⟨v,u,hD,_⟩,_⟩:=R;exact⟨_,hD⟩
def clO (R ch:Nat)(wv bp bv:Value):Obj:= .cells #[.pointer (some ⟨R,0,none⟩),.chan (some ch),wv,bp,bv] 125 (0,0)
theorem clCells {w:World}{C R ch:Nat}{wv bp bv:Value}(h:w.heap[C]?=some (clO R ch wv bp bv)):w.cell? ⟨C,0,none⟩=some (.pointer (some ⟨R,0,none⟩))∧w.cell? ⟨C,1,none⟩=some (.chan (some ch))∧w.cell? ⟨C,2,none⟩=some wv∧w.cell? ⟨C,3,none⟩=some bp∧w.cell? ⟨C,4,none⟩=some bv∧∀j,w.frozen? ⟨C,j,none⟩=false:=
 ⟨blkCell h 0,blkCell h 1,blkCell h 2,blkCell h 3,blkCell h 4,blkFree h⟩
theorem next_full (C R ch cap s r:Nat)(buf:Array Value)(tm:Bool)(wv bp bv:Value)(w:World)(hC:w.heap[C]?=some (clO R ch wv bp bv))(hch:w.heap[ch]?=some (.chan cap buf false s r tm))(hf:cap≤buf.size):Calls Tryz.prog 90 #[.pointer (some ⟨C,0,none⟩)] w fun e w'=>e= .returned (.tuple #[.pointer none,.bool false])∧w'=w:=by
 obtain⟨c0,c1,c2,c3,c4,cf⟩:=clCells hC;have hlt:=blkLt hC;have HC:=hide' hch;clear hC hch;go_enter Tryz.func90,Tryz.ntmps90;go_upto_region 3 with fail
 refine wp_of_reg ?_;show RegWp _ _ [0,1,2] _ _ _;refine reg_send_full (c:=ch) (v:= .agg #[]) (z:= .agg #[]) rfl rfl (by simp[go_sem,execOp,scase,Act.eval]) HC.out hf ?_;refine reg_drop 1 rfl ?_;simp only[List.drop,goInt]
 go_wp2;go_ret2;exact⟨rfl,rfl⟩
theorem chg_setChan (w:World)(c cap:Nat)(buf:Array Value)(cl:Bool)(s r:Nat)(tm:Bool):Chg [c] w (w.setChan c cap buf cl s r tm):=
 ⟨rfl,rfl,rfl,by simp[World.setChan],fun k hk hn=>by simp only[World.setChan];rw[Array.getElem?_setIfInBounds_ne (fun e=>hn (by simp[e]))]⟩
theorem next_none (C R ch cap s r t:Nat)(d:Int)(hb:Option Nat)(st:St)(buf:Array Value)(tm:Bool)(wv bp bv:Value)(w:World)(hC:w.heap[C]?=some (clO R ch wv bp bv))(hch:w.heap[ch]?=some (.chan cap buf false s r tm))(hf:buf.size<cap)(hd:dT d t)(hR:RdrAt w R hb t st)(hl:st.held.length≤140737488355328)(hn:readR d st.held=none):Calls Tryz.prog 90 #[.pointer (some ⟨C,0,none⟩)] w fun e w'=>e= .returned (.tuple #[.pointer none,.bool false])∧Chg [ch] w w'∧∃buf' s' r',buf'.size=buf.size∧w'.heap[ch]?=some (.chan cap buf' false s' r' tm):=by
 obtain⟨c0,c1,c2,c3,c4,cf⟩:=clCells hC;have hlt:=blkLt hC;have hCc:C≠ch:=fun e=>by rw[e,hch]at hC;cases hC
 have hRc:=hR.apartO hch (fun Z f e=>by cases e) (fun Z f e=>by cases e);have k1:=chg_setChan w ch cap (buf.push (.agg #[])) false (s+1) r tm;have hch1:=heap_setChan w ch cap (buf.push (.agg #[])) false (s+1) r tm (blkLt hch);have hC1:=k1.keep hC (by simpa using hCc);have hR1:RdrAt (w.setChan ch cap (buf.push (.agg #[])) false (s+1) r tm) R hb t st:=hR.other (k1.block R (hR.lt).1 (by simpa using fun e=>hRc.1 e.symm)) (fun b hb'=>k1.block b ((hR.lt).2 b hb') (by simpa using fun e=>hRc.2 (by rw[hb',e])));have HRd:=hide' (readRd_any R t d hd _ hb st hR1 hl);rw[hn]at HRd;have HC:=hide' hch;have H1:=hide' (And.intro k1 (And.intro hch1 hC1));have d0:=(clCells hC1).1;clear hC hch k1 hch1 hC1 hR1 hR hn
 go_enter Tryz.func90,Tryz.ntmps90;go_upto_region 3 with fail
 refine wp_of_reg ?_;show RegWp _ _ [0,1,2] _ _ _;refine reg_send_room (c:=ch) (v:= .agg #[]) (z:= .agg #[]) rfl rfl (by simp[go_sem,execOp,scase,Act.eval]) HC.out hf ?_;refine reg_drop 1 rfl ?_;simp only[List.drop,goInt]
 generalize w.setChan ch cap (buf.push (.agg #[])) false (s+1) r tm=w1 at*;have hlt1:C<w1.heap.size:=blkLt H1.out.2.2;go_wp2_with fail
 go_at_call 121;refine HRd.out.mono ?_;rintro e w2 ⟨rfl,R2,B2⟩;have hC2:=(B2.block C hlt1).trans H1.out.2.2;have hch2:=(B2.block ch (blkLt H1.out.2.1)).trans H1.out.2.1;have HB2:=hide' (And.intro B2 (And.intro hC2 hch2));clear R2 B2 hC2 hch2;unfold zCmd;go_upto_region 7 with fail
 have B3:Below w2.heap.size w2 (w2.alloc (.cells #[.int .i64 0,.slice none 0 0,.string ⟨#[]⟩,.string ⟨#[]⟩,.bool false,.int .i64 0] 36)):=(Below.refl _ _).alloc (Nat.le_refl _) _;have hC3:=(B3.block C (blkLt HB2.out.2.1)).trans HB2.out.2.1;have hch3:=(B3.block ch (blkLt HB2.out.2.2)).trans HB2.out.2.2;have HB3:=hide' (And.intro B3 hch3);have e1:=(clCells hC3).2.1;clear B3 hC3 hch3;generalize w2.alloc (.cells #[.int .i64 0,.slice none 0 0,.string ⟨#[]⟩,.string ⟨#[]⟩,.bool false,.int .i64 0] 36)=w3 at*;refine wp_of_reg ?_;show RegWp _ _ [0,1,2,3,4] _ _ _;refine reg_value (v:= .pointer (some ⟨C,0,none⟩)) (w':=w3) rfl rfl (by simp[go_sem,execOp,Act.eval]) ?_;refine reg_value (v:= .pointer (some ⟨C,0,none⟩)) (w':=w3) rfl rfl (by simp[go_sem,execOp,Act.eval,Act.put]) ?_
 refine reg_value (v:= .pointer (some ⟨C,1,none⟩)) (w':=w3) rfl rfl (by simp[go_sem,execOp,Act.eval,Act.put]) ?_;refine reg_value (v:= .chan (some ch)) (w':=w3) rfl rfl (by simp[go_sem,execOp,Act.eval,Act.put,e1]) ?_;refine reg_recv (c:=ch) (z:= .agg #[]) rfl rfl (by simp[go_sem,execOp,rcase,Act.eval,Act.put]) HB3.out.2 (by simp) ?_;refine reg_end ?_;simp only[Act.put]
 go_wp2;go_ret2;have hs:((buf.push (.agg #[])).extract 1 (buf.size+1)).size=buf.size:=by simp
 have q3:=HB3.out;refine⟨rfl,?_,_,_,_,hs,heap_setChan _ _ _ _ _ _ _ _ (blkLt q3.2)⟩;have hl1:Later w [ch] [ch]:=Later.refl _ _;exact(H1.out.1.trans (Chg.of_below HB2.out.1) hl1).trans ((Chg.of_below (M:=[ch]) q3.1).trans (chg_setChan _ _ _ _ _ _ _ _) (Later.refl _ _)) hl1
set_option maxHeartbeats 1000000
set_option maxRecDepth 100000
theorem info175:∃i,Tryz.prog.info? 175=some i∧i.zero=some (.pointer none)∧i.size=1∧i.bytes=8:=by
 have h:(Tryz.prog.info? 175).map (fun i=>(i.zero,i.size,i.bytes))=some (some (.pointer none),1,8):=by kernel_rfl
 obtain⟨i,hi,h0⟩:=Option.map_eq_some_iff.1 h;simp at h0;exact⟨i,hi,h0.1,h0.2.1,h0.2.2⟩
theorem ownsRow_other {w w':World}{base e size n:Nat}{v:Value}{xs:List Value}(h:w.ownsRow base e size v n xs)(k:∀g,v.ownBlock=some g→w'.heap[g]?=w.heap[g]?):w'.ownsRow base e size v n xs:=by
 obtain⟨h1,h2|⟨g,cap,cur,rfl,a,b,c⟩⟩:=h
 ·exact⟨h1,.inl h2⟩
 ·exact⟨h1,.inr ⟨g,cap,cur,rfl,a,(k g rfl).trans b,c⟩⟩
structure NewQ (lo:Nat)(w':World)(q:Nat)(c:Cmd):Prop where
 ge:lo≤q
 at_:∃ka kn kc yb vb,lo≤yb∧lo≤vb∧KeysIn w' lo (.slice ka kn kc) c.keys∧w'.heap[q]?=some (quO c.kind (.slice ka kn kc) c.val c.word c.fatal c.id kn false false (.slice (some ⟨yb,0,none⟩) kn kn) (.slice (some ⟨vb,0,none⟩) kn kn))∧w'.heap[yb]?=some (.cells (Array.replicate kn (.bool false)) 4 (0,0))∧w'.heap[vb]?=some (.cells (Array.replicate kn (.string ⟨#[]⟩)) 9 (0,0))
theorem next_some (C R ch cap s r t n:Nat)(d:Int)(hb:Option Nat)(st:St)(x:StepR)(xs:List Value)(buf:Array Value)(tm:Bool)(wv bp bv:Value)(w:World)(hC:w.heap[C]?=some (clO R ch wv bp bv))(hch:w.heap[ch]?=some (.chan cap buf false s r tm))(hf:buf.size<cap)(hd:dT d t)(hR:RdrAt w R hb t st)(hl:st.held.length≤140737488355328)(hn:readR d st.held=some x)(hW:w.ownsRow 0 175 1 wv n xs)(hn2:n≤1000000)(hk4:x.c.keys.length≤1000000):Calls Tryz.prog 90 #[.pointer (some ⟨C,0,none⟩)] w fun e w'=>∃(q g' c':Nat) (buf':Array Value) (s' r':Nat) (hb':Option Nat),e= .returned (.tuple #[.pointer (some ⟨q,0,none⟩),.bool true])∧w'.heap[C]?=some (clO R ch (.slice (some ⟨g',0,none⟩) (n+1) c') bp bv)∧w'.ownsRow 0 175 1 (.slice (some ⟨g',0,none⟩) (n+1) c') (n+1) (xs++[.pointer (some ⟨q,0,none⟩)])∧(wv.ownBlock=some g'∨w.heap.size≤g')∧buf'.size=buf.size+1∧w'.heap[ch]?=some (.chan cap buf' false s' r' tm)∧RdrAt w' R hb' t (afterS st x)∧Fresh w hb hb'∧NewQ w.heap.size w' q x.c∧Chg (C::ch::R::(hb.toList++wv.ownBlock.toList)) w w':=by
 obtain⟨c0,c1,c2,c3,c4,cf⟩:=clCells hC;have hlt:=blkLt hC;have hCc:C≠ch:=fun e=>by rw[e,hch]at hC;cases hC
 have hRc:=hR.apartO hch (fun Z f e=>by cases e) (fun Z f e=>by cases e);have hRC:=hR.apartO hC (fun Z f e=>by unfold clO at e;cases e) (fun Z f e=>by unfold clO at e;cases e);have k1:=chg_setChan w ch cap (buf.push (.agg #[])) false (s+1) r tm;have hch1:=heap_setChan w ch cap (buf.push (.agg #[])) false (s+1) r tm (blkLt hch);have hC1:=k1.keep hC (by simpa using hCc);have hR1:RdrAt (w.setChan ch cap (buf.push (.agg #[])) false (s+1) r tm) R hb t st:=hR.other (k1.block R (hR.lt).1 (by simpa using fun e=>hRc.1 e.symm)) (fun b hb'=>k1.block b ((hR.lt).2 b hb') (by simpa using fun e=>hRc.2 (by rw[hb',e])));have HRd:=hide' (readRd_any R t d hd _ hb st hR1 hl);rw[hn]at HRd;have HC:=hide' hch;have hWb:∀g,wv.ownBlock=some g→∃cur,w.heap[g]?=some (.cells cur 175 (0,0)):=fun g hg=>by
  rcases hW.2 with⟨e,_⟩|⟨g',cap',cur,e,_,h6,_⟩
  ·rw[e]at hg;cases hg
  ·rw[e]at hg;cases hg;exact⟨cur,h6⟩
 have H1:=hide' (And.intro k1 (And.intro hch1 (And.intro hC1 (And.intro hR1 (And.intro hWb hW)))));have d0:=(clCells hC1).1;obtain⟨va,vn,vc,rfl⟩:=own_form hW;clear hC hch k1 hch1 hC1 hR1 hR hn hWb hW;go_enter Tryz.func90,Tryz.ntmps90;go_upto_region 3 with fail
 refine wp_of_reg ?_;show RegWp _ _ [0,1,2] _ _ _;refine reg_send_room (c:=ch) (v:= .agg #[]) (z:= .agg #[]) rfl rfl (by simp[go_sem,execOp,scase,Act.eval]) HC.out hf ?_;refine reg_drop 1 rfl ?_;simp only[List.drop,goInt]
 generalize hw1:w.setChan ch cap (buf.push (.agg #[])) false (s+1) r tm=w1 at*;have hlt1:C<w1.heap.size:=blkLt H1.out.2.2.1;go_wp2_with fail
 go_at_call 121;refine HRd.out.mono ?_;rintro e w2 ⟨ka,kn,kc,rfl,hk2,T2⟩;have hC2:=T2.keep H1.out.2.2.2.1 H1.out.2.2.1 (fun Z f e=>by unfold clO at e;cases e) (fun Z f e=>by unfold clO at e;cases e);have hch2:=T2.keep H1.out.2.2.2.1 H1.out.2.1 (fun Z f e=>by cases e) (fun Z f e=>by cases e);have hkl:x.c.keys.length=kn:=by rcases hk2 with⟨e,h⟩|⟨b,c,e,_⟩<;>(cases e;first|(rw[h];rfl)|rfl)
 have HB2:=hide' (And.intro T2 (And.intro hC2 (And.intro hch2 hk2)));have hkn:kn≤1000000:=by omega
 clear T2 hC2 hch2 hk2 hkl HRd;have HQ:=hide' (fun W=>newQuestion_any x.c.kind ka kn kc x.c.val x.c.word x.c.fatal x.c.id W hkn);go_wp2_with fail
 go_at_call 131;refine(HQ.out _).mono ?_;rintro e w4 ⟨q,yb,vb,rfl,hq,hyb,hvb,gq,gy,gv,B4⟩;have B24:Below w2.heap.size w2 w4:=((Below.refl _ w2).alloc (Nat.le_refl _) _).trans (B4.mono (by simp));have hC4:=(B24.block C (blkLt HB2.out.2.1)).trans HB2.out.2.1;have hch4:=(B24.block ch (blkLt HB2.out.2.2.1)).trans HB2.out.2.2.1;have e2:=(clCells hC4).2.2.1;have ef:=(clCells hC4).2.2.2.2.2 2;have hlt4:=blkLt hC4;have hrow4:∀g,(Value.slice va vn vc).ownBlock=some g→∃cur,w.heap[g]?=some (.cells cur 175 (0,0))∧w4.heap[g]?=some (.cells cur 175 (0,0)):=fun g hg=>by
  obtain⟨cur,hcur⟩:=H1.out.2.2.2.2.1 g hg;have h1:=H1.out.1.keep hcur (by simp;intro e;rw[e,HC.out]at hcur;cases hcur);have h2:=HB2.out.1.keep H1.out.2.2.2.1 h1 (fun Z f e=>by cases e) (fun Z f e=>by cases e);exact⟨cur,hcur,(B24.block g (blkLt h2)).trans h2⟩
 have hW4:w4.ownsRow 0 175 1 (.slice va vn vc) n xs:=ownsRow_other H1.out.2.2.2.2.2 (fun g hg=>by obtain⟨cur,a,b⟩:=hrow4 g hg;rw[a,b]);have hrC:(Value.slice va vn vc).ownBlock≠some C:=fun e=>by
  obtain⟨cur,_,b⟩:=hrow4 C e;rw[hC4]at b;unfold clO at b;cases b
 have H4:=hide' (And.intro B24 (And.intro hC4 (And.intro hch4 (And.intro hrow4 (And.intro hW4 (And.intro hrC (And.intro hq (And.intro hyb (And.intro hvb (And.intro gq (And.intro gy gv)))))))))));obtain⟨i1,hi,hz0,hz1,hz2⟩:=info175;have HI:=hide' (And.intro hi (And.intro hz0 (And.intro hz1 hz2)));have HNw:=hide' (show∀(j:Nat) (u:Value),[Value.pointer (some ⟨q,0,none⟩)][j]?=some u→(w4.alloc (.cells #[.pointer (some ⟨q,0,none⟩)] 175)).cell? ((⟨w4.heap.size,0,none⟩:Addr).add j)=some u from World.news_of_block (cs:=#[.pointer (some ⟨q,0,none⟩)]) (blkNew w4 _));clear B24 hC4 hch4 hrow4 hW4 hrC hq hyb hvb gq gy gv B4 hi hz0 hz1 hz2;go_wp2_with (first
  |(at_builtin;refine wpList_append_lies _ rfl _ _ _ rfl 0 175 i1 (.pointer none) 1 8 Tryz.underlying120 HI.out.1 HI.out.2.1 HI.out.2.2.1 HI.out.2.2.2 rfl (by omega) (.slice va vn vc) n xs rfl (World.ownsRow.alloc H4.out.2.2.2.2.1 _) ⟨w4.heap.size,0,none⟩ 1 1 [.pointer (some ⟨q,0,none⟩)] rfl rfl HNw.out (by simp[Value.oneCell']) (by omega) (by unfold maxLen;omega) (by omega) (Nat.zero_le _) (w4.heap.size+1) (by simp) ?_;intro g' c' w6 hown hgrow hat hlt6;have hC6:w6.heap[C]?=some (clO R ch (.slice va vn vc) bp bv):=(hgrow.block C (by simp;omega) (fun e=>H4.out.2.2.2.2.2.1 e.symm)).trans ((Below.heap_alloc _ _ _ hlt4).trans H4.out.2.1);have f2:=(clCells hC6).2.2.1;have ff:=(clCells hC6).2.2.2.2.2 2;have hlt6':=blkLt hC6;have H6:=hide' (And.intro hC6 (And.intro hown (And.intro hgrow hat)));clear hC6 hown hgrow hat)
  |fail)
 go_ret2;obtain⟨k1,hch1,hC1,hR1,hWb,hW⟩:=H1.out;obtain⟨T2,hC2,hch2,hk2⟩:=HB2.out;obtain⟨B24,hC4,hch4,hrow4,hW4,hrC,hq,hyb,hvb,gq,gy,gv⟩:=H4.out;obtain⟨hC6,hown,hgrow,hat⟩:=H6.out;have hs1:w1.heap.size=w.heap.size:=by rw[←hw1];exact size_setChan _ _ _ _ _ _ _ _
 have sz2:=T2.turn.size;have sz4:=B24.size;have sz6:=hgrow.size;rw[World.size_alloc]at sz6;have keep:∀(b:Nat) (o:Obj),w4.heap[b]?=some o→b≠C→(∀Z f,o≠ .cells Z 175 f)→(w6.setCell ⟨C,2,none⟩ (.slice (some ⟨g',0,none⟩) (n+1) c')).heap[b]?=some o:=fun b o h hbC hne=>
  (Below.heap_setCell w6 ⟨C,2,none⟩ _ b hbC).trans ((hgrow.block b (by have:=blkLt h;rw[World.size_alloc];omega) (fun e=>by
   obtain⟨cur,_,hc⟩:=hrow4 b e.symm;rw[h]at hc;exact hne _ _ (Option.some.inj hc))).trans ((Below.heap_alloc _ _ _ (blkLt h)).trans h))
 obtain⟨⟨hb',R2,F2⟩,TT2⟩:=T2;have R4:=R2.below B24;have hap:=R4.apartO hC4 (fun Z f e=>by unfold clO at e;cases e) (fun Z f e=>by unfold clO at e;cases e);have hbk:∀b,hb'=some b→∃Z f,w4.heap[b]?=some (.cells Z 5 f):=fun b e=>by subst e;obtain⟨Z,hZ⟩:=R4.hbQ;exact⟨Z,_,hZ⟩
 obtain⟨ZD,hZD⟩:=R4.dQ;have hqC:q≠C:=fun e=>by rw[e,hC4]at hq;unfold clO quO at hq;cases hq
 have hybC:yb≠C:=fun e=>by rw[e,hC4]at hyb;unfold clO at hyb;have:=congrArg (fun o=>match o with|some (Obj.cells _ t _)=>t|_=>0) hyb;simp at this
 have hvbC:vb≠C:=fun e=>by rw[e,hC4]at hvb;unfold clO at hvb;have:=congrArg (fun o=>match o with|some (Obj.cells _ t _)=>t|_=>0) hvb;simp at this
 have hchC:ch≠C:=fun e=>hCc e.symm
 have gq':w.heap.size≤q:=by rw[World.size_alloc]at gq;omega
 have gy':w.heap.size≤yb:=by rw[World.size_alloc]at gy;omega
 have gv':w.heap.size≤vb:=by rw[World.size_alloc]at gv;omega
 refine⟨q,g',c',_,_,_,hb',rfl,blkSet hC6 _,ownsRow_other hown (fun g hg=>Below.heap_setCell w6 ⟨C,2,none⟩ _ g (fun e=>?_)),?_,by simp,keep ch _ hch4 hchC (fun Z f e=>by cases e),?_,?_,⟨gq',ka,kn,kc,yb,vb,gy',gv',?_,keep q _ hq hqC (fun Z f e=>by unfold quO at e;cases e),keep yb _ hyb hybC (fun Z f e=>by cases e),keep vb _ hvb hvbC (fun Z f e=>by cases e)⟩,?_⟩
 ·cases hg;rcases hown.2 with⟨h,_⟩|⟨g2,cap2,cur2,h,_,h3,_⟩
  ·cases h
  ·cases h;rw[show g'=C from e,hC6]at h3;unfold clO at h3;cases h3
 ·rcases hat with h|h
  ·exact .inl h
  ·exact .inr (by omega)
 ·exact R4.other ((keep R _ hZD (fun e=>hap.1 e.symm) (fun Z f e=>by cases e)).trans hZD.symm) (fun b e=>by obtain⟨Z,f,hZ⟩:=hbk b e;exact(keep b _ hZ (fun h=>hap.2 (by rw[e,h])) (fun Z f e=>by cases e)).trans hZ.symm)
 ·rcases F2 with h|h|⟨k,h,hk⟩
  ·exact .inl h
  ·exact .inr (.inl h)
  ·exact .inr (.inr ⟨k,h,by omega⟩)
 ·exact hk2.other (by omega) (fun b c Z hZ _ _=>by
   have h4:=(B24.block b (blkLt hZ)).trans hZ;exact(keep b _ h4 (fun e=>by rw[e,hC4]at h4;unfold clO at h4;cases h4) (fun Z f e=>by cases e)).trans hZ.symm)
 ·have m1:Chg (C::ch::R::(hb.toList++(Value.slice va vn vc).ownBlock.toList)) w w1:=k1.more (by simp);have m2:Chg (R::hb.toList) w1 w2:=⟨TT2.os,TT2.tape,TT2.output,TT2.size,fun k hk hn=>TT2.block k hk (fun e=>hn (by simp[e])) (fun e=>hn (by rw[←e];simp))⟩
  have m4:=(m1.trans m2 (fun b hm=> .inl (by simp at hm⊢;rcases hm with h|h<;>simp[h]))).trans (Chg.of_below (M:=[]) B24) (fun b hm=>by cases hm);have m5:Chg (C::ch::R::(hb.toList++(Value.slice va vn vc).ownBlock.toList)) w (w4.alloc (.cells #[.pointer (some ⟨q,0,none⟩)] 175)):=m4.trans (Chg.of_below (M:=[]) ((Below.refl _ _).alloc (Nat.le_refl _) _)) (fun b hm=>by cases hm);exact(m5.grown hgrow (fun b e=> .inl (by rw[e];simp))).set (.inl (by simp)) _
end Go.Proofs.YtlonjggfnleolaaGreatDoor
namespace Go.Proofs.YtlonjggfnleolaaGreatDoor
open Go.RowKit Go.Shelf
set_option linter.unusedVariables false
set_option maxHeartbeats 1000000
set_option maxRecDepth 100000
theorem answered_any (q:Nat)(k:Int)(kv:Value)(val wd:ByteArray)(ft:Bool)(id n:Int)(fa re:Bool)(yv vv:Value)(w:World)(hq:w.heap[q]?=some (quO k kv val wd ft id n fa re yv vv)):Calls Tryz.prog 127 #[.pointer (some ⟨q,0,none⟩)] w fun e w'=>e= .returned (.bool (decide (n=0)))∧w'=w:=by
 unfold quO at hq;have c6:=blkCell hq 6;simp at c6;have hlt:=blkLt hq;clear hq;by_cases hn:n=0
 ·subst hn;go_enter Tryz.func127,Tryz.ntmps127;go_wp2;go_ret;exact⟨rfl,rfl⟩
 ·go_enter Tryz.func127,Tryz.ntmps127;go_wp2;go_ret;exact⟨by simp[hn],rfl⟩
theorem answer_wrong (q:Nat)(kv:Value)(val wd:ByteArray)(ft:Bool)(id n:Int)(fa re:Bool)(yv vv:Value)(w:World)(hq:w.heap[q]?=some (quO 4 kv val wd ft id n fa re yv vv)):Calls Tryz.prog 129 #[.pointer (some ⟨q,0,none⟩)] w fun e w'=>e= .returned (ansV 5 (.slice none 0 0) (.slice none 0 0) wd)∧Below w.heap.size w w':=by
 unfold quO at hq;have c0:=blkCell hq 0;have c3:=blkCell hq 3;simp at c0 c3;have hlt:=blkLt hq;have hqn:¬q=w.heap.size:=by omega
 have HB:Hid (∀o,Below w.heap.size w (w.alloc o)):=fun o=>(Below.refl _ _).alloc (Nat.le_refl _) o
 clear hq;unfold ansV;go_enter Tryz.func129,Tryz.ntmps129;go_wp2;refine bodyPost_ret (v:= .agg #[.int .i64 5,.slice none 0 0,.slice none 0 0,.string wd]) (by simp[results,Tryz.results129,go_sem]) rfl ⟨rfl,HB.out _⟩
end Go.Proofs.YtlonjggfnleolaaGreatDoor
namespace Go.Proofs
open Go.Shelf
def Tryz.lays130_ren:Go.Shelf.Ren:=⟨fun|45=>130|n=>n,fun|22=>120|23=>175|n=>n,fun|n=>n⟩
theorem Tryz.lays130:SlLaysE.n45 Tryz.prog Tryz.lays130_ren:={
 mixed:=by kernel_rfl
 f45:=⟨Tryz.f130.name,by kernel_rfl,Tryz.func130.trans (congrArg some (by kernel_rfl))⟩
 t0:=Tryz.underlying0
 a0:=Tryz.isAgg0
 z0:=Tryz.sizeOf0
 v0:=Tryz.zeroValue0
 t3:=Tryz.underlying3
 a3:=Tryz.isAgg3
 z3:=Tryz.sizeOf3
 v3:=Tryz.zeroValue3
 t4:=Tryz.underlying4
 a4:=Tryz.isAgg4
 z4:=Tryz.sizeOf4
 v4:=Tryz.zeroValue4
 t22:=Tryz.underlying120
 a22:=Tryz.isAgg120
 z22:=Tryz.sizeOf120
 v22:=Tryz.zeroValue120
 a23:=Tryz.isAgg175
 z23:=Tryz.sizeOf175}
end Go.Proofs
namespace Go.Proofs.YtlonjggfnleolaaGreatDoor
open Go.RowKit Go.Shelf Go.Sort
set_option linter.unusedVariables false
set_option maxRecDepth 100000
def ptrV (b:Nat):Value:= .pointer (some ⟨b,0,none⟩)
def ptrO (b:Nat):Option Addr:=some ⟨b,0,none⟩
theorem delFirst (g cap q:Nat)(qs:List Nat)(w:World)(hW:w.ownsRow 0 175 1 (.slice (some ⟨g,0,none⟩) (qs.length+1) cap) (qs.length+1) ((q::qs).map ptrV)):Calls Tryz.prog 130 #[.slice (some ⟨g,0,none⟩) (qs.length+1) cap,.int .i64 0,.int .i64 1] w fun e w'=>e= .returned (.slice (some ⟨g,0,none⟩) qs.length cap)∧w'.ownsRow 0 175 1 (.slice (some ⟨g,0,none⟩) qs.length cap) qs.length (qs.map ptrV)∧Chg [g] w w':=by
 obtain⟨cur,hg,hnc,hcm,hcs,htk⟩:∃cur,w.heap[g]?=some (.cells cur 175 (0,0))∧qs.length+1≤cap∧cap≤maxLen∧cur.size=cap*1∧cur.toList.take ((qs.length+1)*1)=(q::qs).map ptrV:=by
  rcases hW.2 with⟨h,_⟩|⟨g',cap',cur,h,_,h1,h2,h3,h4,h5⟩
  ·cases h
  ·cases h;exact⟨cur,h1,h2,h3,h4,h5⟩
 have hi:(Tryz.prog.info? 175).map (·.size)=some 1:=by kernel_rfl
 obtain⟨i0,hi0,hz1⟩:=Option.map_eq_some_iff.1 hi;have hds:((q::qs).map ptrO).toArray.size=qs.length+1:=by simp
 have hH:Holds Value.pointer w g 0 ((q::qs).map ptrO).toArray:=by
  intro j hj;rw[hds]at hj;refine⟨?_,blkFree hg _⟩;rw[Nat.zero_add,blkCell hg j];have h1:(cur.toList.take ((qs.length+1)*1))[j]?=((q::qs).map ptrV)[j]?:=by rw[htk]
  rw[List.getElem?_take_of_lt (by omega)]at h1;have h2:cur[j]?=((q::qs).map ptrV)[j]?:=by simpa using h1
  rw[h2];have hj2:j<(q::qs).length:=by simpa using hj
  rw[List.getElem?_map,List.getElem?_eq_getElem hj2,getElem!_pos ((q::qs).map ptrO).toArray j (by rw[hds];exact hj)];rw[List.getElem_toArray,List.getElem_map];rfl
 have h:=AnyE.slices_Delete (P:=Tryz.prog) Tryz.lays130 Value.pointer (fun _=>rfl) none (fun w=>Tryz.zeroValue175 w) i0 hi0 hz1 g 0 cap 0 1 ((q::qs).map ptrO).toArray w hH (by rw[hds];exact hnc) (by unfold maxLen at hcm;omega) (by omega) (by rw[hds];omega);rw[hds]at h;change Calls Tryz.prog 130 #[.slice (some ⟨g,0,none⟩) (qs.length+1) cap,.int .i64 0,.int .i64 1] w _ at h;refine h.mono ?_;rintro e w' ⟨rfl,k,rfl⟩;obtain⟨D,hD⟩:∃D,D=(((q::qs).map ptrO).toArray.toList.take 0++((q::qs).map ptrO).toArray.toList.drop 1++List.replicate (1-0) none).toArray:=⟨_,rfl⟩
 have hDl:D.toList=qs.map ptrO++[none]:=by rw[hD];simp
 have hDs:D.size=qs.length+1:=by rw[←Array.length_toList,hDl];simp
 rw[←hD];have hg':(putRow Value.pointer (Sort.ahead w k) g 0 D).heap[g]?=some (.cells (putCells Value.pointer 0 D cur) 175 (0,0)):=by
  unfold putRow mapBlock;simp only[Array.getElem?_modify,if_true]
  rw[show(Sort.ahead w k).heap[g]?=w.heap[g]?from rfl,hg];rfl
 refine⟨rfl,⟨by simp,.inr ⟨g,cap,_,rfl,Nat.zero_le _,hg',by omega,hcm,?_,?_⟩⟩,⟨rfl,rfl,rfl,?_,fun b hb hn=>?_⟩⟩
 ·unfold putCells;simp[hcs]
 ·apply List.ext_getElem?;intro i;by_cases hi:i<qs.length
  ·rw[List.getElem?_take_of_lt (by omega)];unfold putCells;rw[Array.getElem?_toList,Array.getElem?_mapIdx,Array.getElem?_eq_getElem (show i<cur.size by omega)];simp only[Option.map_some]
   rw[if_pos (by omega),getElem!_pos D (i-0) (by omega)];have h1:D.toList[i]?=some (ptrO qs[i]):=by rw[hDl,List.getElem?_append_left (by simpa using hi),List.getElem?_map,List.getElem?_eq_getElem hi];rfl
   have h2:D[i]?=some (ptrO qs[i]):=by simpa using h1
   have h3:D[i-0]'(by omega)=ptrO qs[i]:=by
    have:=(Array.getElem?_eq_some_iff.1 h2).2;simpa using this
   rw[h3,List.getElem?_map,List.getElem?_eq_getElem hi];rfl
  ·rw[List.getElem?_eq_none (by simp;omega),List.getElem?_eq_none (by simp;omega)]
 ·unfold putRow mapBlock;simp
 ·unfold putRow mapBlock;simp only[Array.getElem?_modify]
  rw[if_neg (fun e=>hn (by simp[←e]))];rfl
end Go.Proofs.YtlonjggfnleolaaGreatDoor
namespace Go.Proofs.YtlonjggfnleolaaGreatDoor
open Go.RowKit Go.Shelf
set_option linter.unusedVariables false
structure CliS where
 d:Int
 st:St
 waits:List Cmd
 told:List UInt8
structure CliI where
 C:Nat
 R:Nat
 ch:Nat
 t:Nat
 hb:Option Nat
 wv:Value
 bp:Value
 bv:Value
 qs:List Nat
def CliI.foot (v:CliI):List Nat:=v.C::v.ch::v.R::(v.hb.toList++v.wv.ownBlock.toList++v.bv.ownBlock.toList)
def QuOk (W:World)(q:Nat)(c:Cmd):Prop:=∃lo ka kn kc yv vv,KeysIn W lo (.slice ka kn kc) c.keys∧W.heap[q]?=some (quO c.kind (.slice ka kn kc) c.val c.word c.fatal c.id kn false false yv vv)
structure CmdOk (c:Cmd):Prop where
 k4:c.keys.length≤4
 k8:∀k∈c.keys,k.size≤8
 v40:c.val.size≤40
 id0:0≤c.id
 id1:c.id≤65535
 wrong:c.keys=[]→c.kind=4∧c.word.size≤8
 right:c.keys≠[]→c.kind=1∨c.kind=2∨c.kind=3
structure CliOk (W:World)(win:Nat)(v:CliI)(s:CliS):Prop where
 blk:W.heap[v.C]?=some (clO v.R v.ch v.wv v.bp v.bv)
 rd:RdrAt W v.R v.hb v.t s.st
 di:dT s.d v.t
 chan:∃buf a b tm,W.heap[v.ch]?=some (.chan win buf false a b tm)∧buf.size=s.waits.length
 row:W.ownsRow 0 175 1 v.wv s.waits.length (v.qs.map ptrV)
 ql:v.qs.length=s.waits.length
 qu:∀(i:Nat) (q:Nat) (c:Cmd),v.qs[i]?=some q→s.waits[i]?=some c→QuOk W q c
 bpv:v.bp= .pointer none∨v.bp= .pointer (some ⟨v.C,3,none⟩)
 bld:BldRow W v.bv s.told
 ab:∀b,v.bv.ownBlock=some b→v.hb≠some b
 ok:∀c∈s.waits,CmdOk c
theorem ownsRow_blk {w:World}{base e size n:Nat}{v:Value}{xs:List Value}(h:w.ownsRow base e size v n xs){g:Nat}(hg:v.ownBlock=some g):∃cur,w.heap[g]?=some (.cells cur e (0,0)):=by
 rcases h.2 with⟨rfl,_⟩|⟨g',cap,cur,rfl,_,hb,_⟩
 ·cases hg
 ·cases hg;exact⟨cur,hb⟩
def wrongB (d:Int)(c:Cmd):ByteArray:=if d=1 then liTellB 5 c.word else if d=2 then headB 2 2 0 0 0 else lsTellB 5 c.word
end Go.Proofs.YtlonjggfnleolaaGreatDoor
namespace Go.Proofs.YtlonjggfnleolaaGreatDoor
open Go.RowKit Go.Shelf Go.Conc
set_option linter.unusedVariables false
theorem optMem {b:Nat}{o:Option Nat}(h:b∈o.toList):o=some b:=by
 cases o with
 |none=>cases h
 |some x=>simp at h;rw[h]
end Go.Proofs.YtlonjggfnleolaaGreatDoor
