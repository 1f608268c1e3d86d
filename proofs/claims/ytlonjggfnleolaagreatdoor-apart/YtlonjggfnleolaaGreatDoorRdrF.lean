import Derived.Test.YtlonjggfnleolaaGreatDoorReaderNil
import Derived.Test.YtlonjggfnleolaaGreatDoorRdrD
import Derived.RangeFuncNested
import Derived.RangeFuncBound
import Derived.RangeFuncCalls
import Derived.RangeFuncLeaves
import Derived.Shelf.Abstract
import Derived.Shelf.RegionOpen
import Derived.OwnWalkIn
import Derived.TacticsInMore
import Derived.LoopNIn
import Derived.LoopIn
import Derived.Maps.OwnIn
namespace Go.Proofs.YtlonjggfnleolaaGreatDoor
open Go.RowKit Go.Shelf
set_option linter.unusedVariables false
set_option maxHeartbeats 2000000
set_option maxRecDepth 20000
attribute [local go_sem] Oper.semAt_some
def boxR (D:Nat):Obj:= .cells #[.pointer (some ⟨D,0,none⟩)] 97 (0,0)
def cmdV (kb kc:Nat):Value:= .agg #[.int .i64 1,.slice (some ⟨kb,0,none⟩) 1 kc,.string ⟨#[]⟩,.string ⟨#[]⟩,.bool false,.int .i64 0]
theorem next1_ex (n l X D g c:Nat)(W:World)(hX:W.heap[X]?=some (boxR D))(hXD:X≠D)(hD:W.heap[D]?=some (rd3 (.slice (some ⟨g,0,none⟩) 15 c) 0))(hc:15≤c)(hg:g<W.heap.size)(hgD:g≠D)(hb:∀(i:Nat) (b:UInt8),exL[i]?=some b→W.cell? ⟨g,0+i,none⟩=some (.int .u8 (b.toNat:Int)))(R:World→Prop)(hY:∀W1 kb kc,Turn D W W1→W1.heap[D]?=some (rd3 (.slice none 0 0) 0)→W.heap.size≤kb→kb<W1.heap.size→W1.cell? ⟨kb,0,none⟩=some (.string ⟨#[97]⟩)→YieldAt Fence.wide (n-1) Tryz.prog l #[cmdV kb kc] W1 fun e W'=>e= .returned (.bool true)∧W'.heap[D]?=some (rd3 (.slice none 0 0) 0)∧W'.heap[X]?=some (boxR D)∧R W')(hR:∀W1 W2,R W1→Below W1.heap.size W1 W2→R W2):CallsIn Fence.wide n Tryz.prog 120 #[.func (.yield l) #[] #[],.pointer (some ⟨X,0,none⟩)] W fun e W'=>(∃v,e= .returned v)∧R W':=by
 have HX:=hide' hX;have HD:=hide' hD;have HY:=hide' hY;have HR:=hide' hR;have HB:=hide' hb;clear hD hY hR hb;unfold boxR at hX;have x0:=blkCell hX 0;simp at x0;clear hX;refine callsIn_of_wp Tryz.func120 rfl trivial ?_ rfl;simp only[Tryz.ntmps120,List.size_toArray,List.length_cons,List.length_nil,Nat.reduceAdd,Nat.reduceSub,Array.replicate_succ,Array.replicate_zero,List.push_toArray,List.append_toArray,List.nil_append,List.cons_append]
 gi_wp2;refine wpIn_loop_rounds 2 ?_;rw[roundsIn_succ];gi_wp2_with fail;refine⟨trivial,(fun h=>(by cases h)),?_⟩;refine(callsIn_wide.2 (readR_ex D g c W HD.out hc hg hgD HB.out)).mono ?_;rintro e w1 ⟨⟨kb,kc,rfl,hk1,hk2,hk3⟩,hD1,T1⟩;have hsz1:=T1.size;have hXlt:=blkLt HX.out;have hX1:=(T1.block X hXlt hXD).trans HX.out;have hDlt:=blkLt HD.out;have TA:=T1.alloc (Obj.cells #[.int .i64 1,.slice (some ⟨kb,0,none⟩) 1 kc,.string ⟨#[]⟩,.string ⟨#[]⟩,.bool false,.int .i64 0] 36);have hy:=HY.out _ kb kc TA ((Below.heap_alloc w1 _ D (by omega)).trans hD1) hk1 (by simp;omega) ((World.cell?_of_block (w:=w1) (Below.heap_alloc w1 _ kb hk2)).trans hk3);unfold cmdV at hy;obtain⟨fn,tmps,assign,body,hy1,hy2⟩:=hy
 have HD1:=hide' hD1;have HX1:=hide' hX1;have HT1:=hide' T1;have HY2:=hide' hy2;clear hD1 hX1 T1 TA hk3 hy2;gi_wp2;refine⟨(fun h=>(by cases h)),HY2.out.mono ?_⟩;rintro e W2 ⟨rfl,hD2,hX2,hR2⟩;have HX2:=hide' hX2;have HRR:=hide' hR2;unfold boxR at hX2;have z0:=blkCell hX2 0;simp at z0;clear hX2 hR2 hy1 HY2 HT1 HX1 HD1;gi_wp2;rw[roundsIn_succ];gi_wp2_with fail;refine⟨trivial,(fun h=>(by cases h)),?_⟩;refine(callsIn_wide.2 (readRd_nil D W2 hD2)).mono ?_;rintro e w3 ⟨rfl,hD3,B3⟩;have HB3:=hide' B3;clear B3;gi_wp2;refine⟨fun _ h=>(by cases h),?_⟩;gi_wp2;refine bodyPost_ret (results_none rfl _ _ _) rfl ?_;refine⟨⟨_,rfl⟩,HR.out _ _ HRR.out (HB3.out.trans ?_)⟩;exact((Below.refl _ _).alloc (HB3.out.size) _)
attribute [local go_sem] Oper.semAt_some
def heldLen (w:World)(D:Nat):Nat:=
 match w.cell? ⟨D,1,none⟩,w.cell? ⟨D,2,none⟩with
 |some (.slice _ n _),some (.int _ u)=>n-u.toNat
 |_,_=>0
theorem RdrAt.len {W:World}{D t:Nat}{hb:Option Nat}{s:St}(R:RdrAt W D hb t s):heldLen W D=s.held.length:=by
 obtain⟨⟨v,u,hD,H,hiv⟩,hne⟩:=R;obtain⟨d0,d1,d2,_⟩:=rdCells hD;unfold heldLen;rw[d1,d2];rcases H.form with⟨rfl,rfl,h3,_⟩|⟨g,n,c,all,rfl,_,_,h1,_,h2,h3,_⟩
 ·rw[h3];simp
 ·rw[h3,List.length_drop,h1];simp
def cmdA (c:Cmd)(kv:Value):Array Value:=#[.int .i64 c.kind,kv,.string c.val,.string c.word,.bool c.fatal,.int .i64 c.id]
variable {W W':World}{lo D t b:Nat}{v:Value}{cs:List Cmd}{hb:Option Nat}{s:St}{o:Obj}
def cmdCells:List Cmd→List Value→List Value
 |c::cs,kv::kvs=>(cmdA c kv).toList++cmdCells cs kvs
 |_,_=>[]
theorem cmdCells_snoc:∀(cs:List Cmd) (kvs:List Value) (c:Cmd) (kv:Value),kvs.length=cs.length→cmdCells (cs++[c]) (kvs++[kv])=cmdCells cs kvs++(cmdA c kv).toList:=by
 intro cs;induction cs with
 |nil=>
  intro kvs c kv h;have:kvs=[]:=List.length_eq_zero_iff.1 h;subst this;simp[cmdCells]
 |cons x cs ih=>
  intro kvs c kv h;cases kvs with
  |nil=>simp at h
  |cons y kvs=>
   simp only[List.cons_append,cmdCells]
   rw[ih kvs c kv (by simpa using h),List.append_assoc]
theorem cmdCells_get:∀(cs:List Cmd) (kvs:List Value) (i j:Nat) (c:Cmd) (kv:Value),cs[i]?=some c→kvs[i]?=some kv→j<6→(cmdCells cs kvs)[6*i+j]?=(cmdA c kv)[j]?:=by
 intro cs;induction cs with
 |nil=>intro kvs i j c kv h;simp at h
 |cons x cs ih=>
  intro kvs i j c kv h1 h2 hj;cases kvs with
  |nil=>simp at h2
  |cons y kvs=>
   simp only[cmdCells]
   cases i with
   |zero=>
    simp at h1 h2;subst h1;subst h2;rw[List.getElem?_append_left (by simp[cmdA];omega)];simp
   |succ i=>
    have e:6*(i+1)+j=(cmdA x y).toList.length+(6*i+j):=by simp[cmdA];omega
    rw[e,List.getElem?_append_right (by omega),Nat.add_sub_cancel_left];exact ih kvs i j c kv (by simpa using h1) (by simpa using h2) hj
def CmdsIn (W:World)(lo:Nat)(v:Value)(cs:List Cmd):Prop:=
 ∃kvs:List Value,kvs.length=cs.length∧W.ownsRow lo 36 6 v cs.length (cmdCells cs kvs)∧(∀kv∈kvs,∃a n c,kv= .slice a n c)∧∀(i:Nat) (c:Cmd) (kv:Value),cs[i]?=some c→kvs[i]?=some kv→KeysIn W lo kv c.keys
theorem CmdsIn.nil (W:World)(lo:Nat):CmdsIn W lo (.slice none 0 0) []:=⟨[],rfl,World.ownsRow_nil _ _ _ _,fun _ h=>(by cases h),fun i c kv h=>(by simp at h)⟩
theorem CmdsIn.keep (h:CmdsIn W lo v cs)(k:∀b (Z:Array Value) (T:Nat),W.heap[b]?=some (.cells Z T (0,0))→(T=36∨T=9)→lo≤b→W'.heap[b]?=W.heap[b]?):CmdsIn W' lo v cs:=by
 obtain⟨kvs,h1,⟨h2,h3⟩,hf,h4⟩:=h;refine⟨kvs,h1,⟨h2,?_⟩,hf,fun i c kv hc hkv=>(h4 i c kv hc hkv).other (Nat.le_refl _) (fun b c Z hZ _ hl=>k b Z 9 hZ (.inr rfl) hl)⟩;rcases h3 with h3|⟨g,cap,cur,e,h5,h6,h7⟩
 ·exact .inl h3
 ·exact .inr ⟨g,cap,cur,e,h5,(k g cur 36 h6 (.inl rfl) h5).trans h6,h7⟩
theorem CmdsIn.below (h:CmdsIn W lo v cs)(hb:Below W.heap.size W W'):CmdsIn W' lo v cs:=h.keep (fun b Z T hZ _ _=>hb.block b (blkLt hZ))
theorem RdrAt.apartO (R:RdrAt W D hb t s)(hZ:W.heap[b]?=some o)(h1:∀Z f,o≠ .cells Z 134 f)(h2:∀Z f,o≠ .cells Z 5 f):b≠D∧some b≠hb:=by
 obtain⟨⟨v,u,hD,⟨⟨all,⟨h3,h4⟩,h5⟩,hbk⟩,hiv⟩,hne⟩:=R;refine⟨?_,?_⟩
 ·rintro rfl;rw[hD]at hZ;exact h1 _ _ (Option.some.inj hZ).symm
 ·rintro rfl;rcases h4 with⟨rfl,_⟩|⟨g,cap,cur,rfl,_,hg,_⟩
  ·cases hbk
  ·cases hbk;rw[hg]at hZ;exact h2 _ _ (Option.some.inj hZ).symm
theorem RdrTo.keep {s2:St}(T:RdrTo W W' D hb t s2)(R:RdrAt W D hb t s)(hZ:W.heap[b]?=some o)(h1:∀Z f,o≠ .cells Z 134 f)(h2:∀Z f,o≠ .cells Z 5 f):W'.heap[b]?=some o:=by
 obtain⟨a1,a2⟩:=R.apartO hZ h1 h2;exact(T.turn.block b (blkLt hZ) a1 a2).trans hZ
theorem CmdsIn.snoc {v':Value}{c:Cmd}{ka:Option Addr}{kn kc:Nat}{kvs:List Value}(h1:kvs.length=cs.length)(hf:∀kv∈kvs,∃a n c,kv= .slice a n c)(h4:∀(i:Nat) (c:Cmd) (kv:Value),cs[i]?=some c→kvs[i]?=some kv→KeysIn W lo kv c.keys)(hrow:∀g,v.ownBlock=some g→∀Z f,W.heap[g]?≠some (.cells Z 9 f))(hk:KeysIn W lo (.slice ka kn kc) c.keys)(hg:W.grownBy W' v.ownBlock)(ho:W'.ownsRow lo 36 6 v' (cs.length+1) (cmdCells cs kvs++(cmdA c (.slice ka kn kc)).toList)):CmdsIn W' lo v' (cs++[c]):=by
 have keep:∀{kv:Value} {ss:List ByteArray},KeysIn W lo kv ss→KeysIn W' lo kv ss:=fun h=>h.other (Nat.le_refl _) (fun b c Z hZ _ _=>hg.block b (blkLt hZ) (fun e=>hrow b e.symm Z _ hZ))
 refine⟨kvs++[.slice ka kn kc],by simp[h1],?_,?_,?_⟩
 ·rw[cmdCells_snoc cs kvs c _ h1,List.length_append];exact ho
 ·intro kv hkv;rcases List.mem_append.1 hkv with h|h
  ·exact hf kv h
  ·rw[List.mem_singleton]at h;exact⟨_,_,_,h⟩
 ·intro i c' kv hc hkv;by_cases hi:i<cs.length
  ·rw[List.getElem?_append_left hi]at hc;rw[List.getElem?_append_left (by omega)]at hkv;exact keep (h4 i c' kv hc hkv)
  ·have hi2:i=cs.length:=by
    have:=(List.getElem?_eq_some_iff.1 hc).1;simp at this;omega
   subst hi2;rw[List.getElem?_append_right (Nat.le_refl _)]at hc;rw[←h1,List.getElem?_append_right (Nat.le_refl _)]at hkv;simp at hc hkv;subst hc;subst hkv;exact keep hk
theorem info36:∃i z,Tryz.prog.info? 36=some i∧i.zero=some z∧i.size=6∧i.bytes=80∧z.cells.size=6:=by
 have h:(Tryz.prog.info? 36).map (fun i=>(i.zero,i.size,i.bytes))=some (some (.agg #[.int .i64 0,.slice none 0 0,.string ⟨#[]⟩,.string ⟨#[]⟩,.bool false,.int .i64 0]),6,80):=by kernel_rfl
 cases hi:Tryz.prog.info? 36 with
 |none=>rw[hi]at h;cases h
 |some i=>
  rw[hi]at h;simp only[Option.map_some,Option.some.injEq,Prod.mk.injEq]at h;exact⟨i,_,rfl,h.1,h.2.1,h.2.2,rfl⟩
end Go.Proofs.YtlonjggfnleolaaGreatDoor
