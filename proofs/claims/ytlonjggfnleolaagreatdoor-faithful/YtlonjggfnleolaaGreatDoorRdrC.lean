import Derived.Test.YtlonjggfnleolaaGreatDoorLineD
import Derived.Lib.AppendStr
namespace Go.Proofs.YtlonjggfnleolaaGreatDoor
open Go.RowKit
set_option linter.unusedVariables false
set_option maxHeartbeats 1000000
set_option maxRecDepth 20000
variable {l:List UInt8}{w:World}{v:Value}{u:Nat}{hb:Option Nat}
def byC (l:List UInt8):List Value:=l.map fun b=> .int .u8 (b.toNat:Int)
theorem byC_len (l:List UInt8):(byC l).length=l.length:=by simp[byC]
theorem byC_app (l m:List UInt8):byC (l++m)=byC l++byC m:=by simp[byC]
theorem byC_get {i:Nat}(h:i<l.length):(byC l)[i]?=some (.int .u8 (byAt l i)):=by
 simp[byC,byAt,List.getD,List.getElem?_eq_getElem h]
theorem byC_one (l:List UInt8):∀u∈byC l,u.oneCell'=true:=by
 intro u hu;obtain⟨b,_,rfl⟩:=List.mem_map.1 hu;rfl
def rdO (t:Nat)(v:Value)(u:Nat)(ps cl:Bool):Obj:= .cells #[.iface t (.agg #[]),v,.int .i64 (u:Int),.bool ps,.bool cl] 134 (0,0)
structure Held (w:World)(v:Value)(u:Nat)(hb:Option Nat)(l:List UInt8):Prop where
 ex:∃all:List UInt8,w.ownsRow 0 5 1 v all.length (byC all)∧u≤all.length∧l=all.drop u∧all.length≤140737488355328
 blk:v.ownBlock=hb
theorem Held.other {w':World}(h:Held w v u hb l)(k:∀b,hb=some b→w'.heap[b]?=w.heap[b]?):Held w' v u hb l:=by
 obtain⟨⟨all,⟨h1,h2⟩,h3⟩,hbk⟩:=h;refine⟨⟨all,⟨h1,?_⟩,h3⟩,hbk⟩;rcases h2 with h2|⟨g,cap,cur,e,h4,h5,h6⟩
 ·exact .inl h2
 ·subst e;exact .inr ⟨g,cap,cur,rfl,h4,(k g hbk.symm).trans h5,h6⟩
theorem Held.lt (h:Held w v u hb l):∀b,hb=some b→b<w.heap.size:=by
 obtain⟨⟨all,⟨h1,h2⟩,h3⟩,hbk⟩:=h;intro b hb';rcases h2 with⟨rfl,_⟩|⟨g,cap,cur,e,h4,h5,h6⟩
 ·rw[hb']at hbk;cases hbk
 ·subst e;rw[hb']at hbk;cases hbk;exact blkLt h5
theorem Held.form (h:Held w v u hb l):(v= .slice none 0 0∧u=0∧l=[]∧hb=none)∨∃g n c all,v= .slice (some ⟨g,0,none⟩) n c∧hb=some g∧g<w.heap.size∧all.length=n∧n≤c∧u≤n∧l=all.drop u∧n≤140737488355328∧∀i,i<n→w.cell? ⟨g,i,none⟩=some (.int .u8 (byAt all i)):=by
 obtain⟨⟨all,⟨h1,h2⟩,h3,h4,h5⟩,hbk⟩:=h;rcases h2 with⟨rfl,h0⟩|⟨g,cap,cur,e,h6,h7,h8,h9,h10,h11⟩
 ·left;have:all=[]:=List.length_eq_zero_iff.1 h0;subst this;refine⟨rfl,by simpa using h3,by rw[h4];simp,hbk.symm⟩
 ·right;subst e;refine⟨g,all.length,cap,all,rfl,hbk.symm,blkLt h7,rfl,h8,h3,h4,h5,fun i hi=>?_⟩;rw[blkCell h7 i];have:(cur.toList.take (all.length*1))[i]?=some (.int .u8 (byAt all i)):=by rw[h11];exact byC_get hi
  rw[List.getElem?_take_of_lt (by omega)]at this;simpa using this
theorem len_any (D u:Nat)(v:Value)(hb:Option Nat)(l:List UInt8)(w:World)(H:Held w v u hb l)(d1:w.cell? ⟨D,1,none⟩=some v)(d2:w.cell? ⟨D,2,none⟩=some (.int .i64 (u:Int))):Calls Tryz.prog 74 #[.pointer (some ⟨D,1,none⟩)] w fun e w'=>e= .returned (.int .i64 (l.length:Int))∧∃q,w'=w.drewN q:=by
 rcases H.form with⟨rfl,rfl,rfl,_⟩|⟨g,n,c,all,rfl,_,_,hn,hnc,hu,rfl,hsm,_⟩
 ·clear H;go_enter Tryz.func74,Tryz.ntmps74;go_wp2;go_quiet (fail)
  go_wp2;go_ret;exact⟨rfl,_,rfl⟩
 ·clear H;have hl:Hid ((all.drop u).length=n-u):=by show _=_;rw[List.length_drop,hn]
  clear hn;go_enter Tryz.func74,Tryz.ntmps74;go_wp2;go_quiet (fail)
  go_wp2;go_ret;refine⟨?_,_,rfl⟩;rw[hl.out];exact ret_int (by omega)
theorem waiting_any (D u:Nat)(v:Value)(hb:Option Nat)(l:List UInt8)(w:World)(H:Held w v u hb l)(d1:w.cell? ⟨D,1,none⟩=some v)(d2:w.cell? ⟨D,2,none⟩=some (.int .i64 (u:Int))):Calls Tryz.prog 125 #[.pointer (some ⟨D,1,none⟩)] w fun e w'=>(∃a c,e= .returned (.slice a l.length c)∧BytesA w a l.length c l∧(a=none→c=0)∧(∀g o,a=some ⟨g,o,none⟩→hb=some g))∧∃q,w'=w.drewN q:=by
 rcases H.form with⟨rfl,rfl,rfl,_⟩|⟨g,n,c,all,rfl,hbg,hg,hn,hnc,hu,rfl,hsm,hcell⟩
 ·clear H;go_enter Tryz.func125,Tryz.ntmps125;go_wp2;go_quiet (fail)
  go_wp2;go_ret;exact⟨⟨none,0,rfl,⟨rfl,Nat.le_refl _,by simp,fun g o e=>(by cases e),fun i hi=>(by cases hi)⟩,fun _=>rfl,fun g o e=>(by cases e)⟩,_,rfl⟩
 ·clear H;have HL:Hid ((all.drop u).length=n-u):=by show _=_;rw[List.length_drop,hn]
  have HC:=hide' hcell;have HN:=hide' hn;clear hn hcell;have hu':(u:Int)≤(n:Int):=by omega
  have huc:(u:Int)≤(c:Int):=by omega
  have huc':u≤c:=by omega
  by_cases hc:c=u
  ·subst hc;have hnu:n=c:=by omega
   subst hnu;go_enter Tryz.func125,Tryz.ntmps125;go_wp2;go_quiet (fail)
   go_wp2;go_ret;refine⟨⟨some ⟨g,0,none⟩,0,?_,⟨rfl,?_,?_,fun g' o' e=>?_,fun i hi=>?_⟩,fun h=>(by cases h),fun g' o' e=>(by cases e;exact hbg)⟩,_,rfl⟩
   ·rw[HL.out];simp
   ·rw[HL.out];omega
   ·rw[HL.out];omega
   ·cases e;exact hg
   ·rw[HL.out]at hi;omega
  ·go_enter Tryz.func125,Tryz.ntmps125;go_wp2;go_quiet (fail)
   go_wp2;go_ret;refine⟨⟨some ⟨g,u,none⟩,c-u,?_,⟨rfl,?_,?_,fun g' o' e=>?_,fun i hi=>?_⟩,fun h=>(by cases h),fun g' o' e=>(by cases e;exact hbg)⟩,_,rfl⟩
   ·rw[HL.out];congr 2<;>first|omega|simp
   ·rw[HL.out];omega
   ·rw[HL.out];omega
   ·cases e;exact hg
   ·rw[HL.out]at hi;refine⟨g,u,rfl,?_⟩;rw[HC.out (u+i) (by omega)];simp[byAt,List.getD]
set_option maxHeartbeats 1500000
set_option maxRecDepth 20000
variable {D:Nat}{hb:Option Nat}{w a b:World}
structure RdrAt (w:World)(D:Nat)(hb:Option Nat)(t:Nat)(s:St):Prop where
 ex:∃v u,w.heap[D]?=some (rdO t v u s.pass s.closed)∧Held w v u hb s.held∧(u=0∨u<s.held.length)
 ne:hb≠some D
structure Turn2 (D:Nat)(hb:Option Nat)(w w':World):Prop where
 os:w'.os=w.os
 tape:w'.tape=w.tape
 output:w'.output=w.output
 size:w.heap.size≤w'.heap.size
 block:∀k,k<w.heap.size→k≠D→some k≠hb→w'.heap[k]?=w.heap[k]?
theorem Turn2.refl (D:Nat)(hb:Option Nat)(w:World):Turn2 D hb w w:=⟨rfl,rfl,rfl,Nat.le_refl _,fun _ _ _ _=>rfl⟩
theorem Turn2.of_turn {w':World}(h:Turn D w w'):Turn2 D hb w w':=⟨h.os,h.tape,h.output,h.size,fun k h1 h2 _=>h.block k h1 h2⟩
def Fresh (w:World)(hb hb':Option Nat):Prop:=hb'=hb∨hb'=none∨∃k,hb'=some k∧w.heap.size≤k
theorem Turn2.trans {hb':Option Nat}{c:World}(h:Turn2 D hb a b)(k:Turn2 D hb' b c)(f:Fresh a hb hb'):Turn2 D hb a c:=
 ⟨k.os.trans h.os,k.tape.trans h.tape,k.output.trans h.output,Nat.le_trans h.size k.size,fun i hi hn hh=>(k.block i (Nat.lt_of_lt_of_le hi h.size) hn (by
  rcases f with rfl|rfl|⟨j,rfl,hj⟩
  ·exact hh
  ·simp
  ·simp;omega)).trans (h.block i hi hn hh)⟩
theorem Fresh.trans {h1 h2 h3:Option Nat}(f:Fresh a h1 h2)(g:Fresh b h2 h3)(hs:a.heap.size≤b.heap.size):Fresh a h1 h3:=by
 rcases g with rfl|rfl|⟨j,rfl,hj⟩
 ·exact f
 ·exact .inr (.inl rfl)
 ·exact .inr (.inr ⟨j,rfl,by omega⟩)
structure RdrTo (w w':World)(D:Nat)(hb:Option Nat)(t:Nat)(s:St):Prop where
 ex:∃hb',RdrAt w' D hb' t s∧Fresh w hb hb'
 turn:Turn2 D hb w w'
theorem info5:∃i,Tryz.prog.info? 5=some i∧i.zero=some (.int .u8 0)∧i.size=1∧i.bytes=1:=by
 have h:(Tryz.prog.info? 5).map (fun i=>(i.zero,i.size,i.bytes))=some (some (.int .u8 0),1,1):=by kernel_rfl
 cases hi:Tryz.prog.info? 5 with
 |none=>rw[hi]at h;cases h
 |some i=>
  rw[hi]at h;simp only[Option.map_some,Option.some.injEq,Prod.mk.injEq]at h;exact⟨i,rfl,h.1,h.2.1,h.2.2⟩
theorem rdCells {t u:Nat}{v:Value}{ps cl:Bool}(h:w.heap[D]?=some (rdO t v u ps cl)):
 w.cell? ⟨D,0,none⟩=some (.iface t (.agg #[]))∧w.cell? ⟨D,1,none⟩=some v∧w.cell? ⟨D,2,none⟩=some (.int .i64 (u:Int))∧w.cell? ⟨D,3,none⟩=some (.bool ps)∧w.cell? ⟨D,4,none⟩=some (.bool cl)∧(∀j,w.frozen? ⟨D,j,none⟩=false):=
 ⟨blkCell h 0,blkCell h 1,blkCell h 2,blkCell h 3,blkCell h 4,blkFree h⟩
theorem use_any (D t k:Nat)(hb:Option Nat)(s:St)(w:World)(R:RdrAt w D hb t s)(hk:k≤s.held.length):Calls Tryz.prog 126 #[.pointer (some ⟨D,1,none⟩),.int .i64 (k:Int)] w fun e w'=>e= .returned (.tuple #[])∧RdrTo w w' D hb t ⟨s.held.drop k,s.pass,s.closed⟩:=by
 obtain⟨⟨v,u,hD,H,_⟩,hne⟩:=R;obtain⟨held,ps,cl⟩:=s;simp only at hD H hk;obtain⟨d0,d1,d2,d3,d4,df⟩:=rdCells hD;have hlt:=blkLt hD;have H1:Held (w.setCell ⟨D,2,none⟩ (.int .i64 ((u:Int)+k))) v (u+k) hb (held.drop k):=by
  obtain⟨⟨all,h1,h2,h3,h4⟩,hbk⟩:=H;have hl:held.length=all.length-u:=by rw[h3];simp
  have:Held w v (u+k) hb (held.drop k):=⟨⟨all,h1,by omega,by rw[h3,List.drop_drop],h4⟩,hbk⟩
  exact this.other (fun b hb'=>Below.heap_setCell w ⟨D,2,none⟩ _ b (by intro e;apply hne;rw[hb',e]))
 have hub:u+k≤140737488355328:=by
  obtain⟨⟨all,h1,h2,h3,h4⟩,hbk⟩:=H;have hl:held.length=all.length-u:=by rw[h3];simp
  omega
 have hD1:=blkSet (i:=2) hD (.int .i64 ((u:Int)+k));have d1':(w.setCell ⟨D,2,none⟩ (.int .i64 ((u:Int)+k))).cell? ⟨D,1,none⟩=some v:=by go_simp
 have d2':(w.setCell ⟨D,2,none⟩ (.int .i64 ((u:Int)+k))).cell? ⟨D,2,none⟩=some (.int .i64 ((u:Int)+k)):=World.cell?_setCell_same' _ _ _ (by rw[d2];rfl);have hT1:Turn D w (w.setCell ⟨D,2,none⟩ (.int .i64 ((u:Int)+k))):=(Turn.refl D w).setCell 2 _;have hlen:(held.drop k).length≤140737488355328:=by
  obtain⟨⟨all,h1,h2,h3,h4⟩,hbk⟩:=H1;rw[h3];simp;omega
 have HH:=hide' (And.intro H1 (And.intro hD1 hT1));clear H H1 hD1 hT1 hD;have d2c:(w.setCell ⟨D,2,none⟩ (.int .i64 ((u:Int)+k))).cell? ⟨D,2,none⟩=some (.int .i64 ((u+k:Nat):Int)):=d2';have HLn:=hide' (fun q=>len_any D (u+k) v hb (held.drop k) ((w.setCell ⟨D,2,none⟩ (.int .i64 ((u:Int)+k))).drewN q) (HH.out.1.other (fun _ _=>rfl)) d1' d2c);have HLn0:=hide' (len_any D (u+k) v hb (held.drop k) (w.setCell ⟨D,2,none⟩ (.int .i64 ((u:Int)+k))) HH.out.1 d1' d2c);have HWt:=hide' (fun q=>waiting_any D (u+k) v hb (held.drop k) ((w.setCell ⟨D,2,none⟩ (.int .i64 ((u:Int)+k))).drewN q) (HH.out.1.other (fun _ _=>rfl)) d1' d2c);clear d2c;by_cases hge:(held.drop k).length≤u+k
 ·have hge':((held.drop k).length:Int)≤(u:Int)+k:=by omega
  generalize hL:held.drop k=L at*;have hL':=hide' hL;clear hL;go_enter Tryz.func126,Tryz.ntmps126;go_wp2;go_quiet ((go_at_call 74;exact Calls.quiet_of (HLn.out _)))
  go_wp2_with fail
  go_at_call 125;refine(HWt.out _).mono ?_;rintro e w2 ⟨⟨a,c,rfl,hBA,hnil,_⟩,q,rfl⟩;have HBA:=hide' hBA;have HNil:=hide' hnil;clear hBA hnil;by_cases hL0:L=[]
  ·subst hL0;have d1w:=d1';have fin:∀q',RdrTo w ((((w.setCell ⟨D,2,none⟩ (.int .i64 ((u:Int)+k))).drewN q').setCell ⟨D,1,none⟩ (.slice none 0 0)).setCell ⟨D,2,none⟩ (.int .i64 0)) D hb t ⟨[],ps,cl⟩:=by
    intro q';refine⟨⟨none,⟨⟨.slice none 0 0,0,?_,⟨⟨[],World.ownsRow_nil _ _ _ _,Nat.le_refl _,rfl,by simp⟩,rfl⟩,.inl rfl⟩,by simp⟩,.inr (.inl rfl)⟩,.of_turn (((HH.out.2.2.drewN q').setCell 1 _).setCell 2 _)⟩;have e1':((w.setCell ⟨D,2,none⟩ (.int .i64 ((u:Int)+k))).drewN q').heap[D]?=_:=HH.out.2.1;exact(blkSet (i:=2) (blkSet (i:=1) e1' (.slice none 0 0)) (.int .i64 0)).trans rfl
   cases a with
   |none=>
    have hc0:c=0:=HNil.out rfl;subst hc0;clear HLn HWt HLn0;go_wp2;go_end0;exact⟨rfl,fin _⟩
   |some ad=>
    clear HLn HWt HLn0;go_wp2;go_end0;exact⟨rfl,fin _⟩
  ·have hlen1:1≤L.length:=by cases L with|nil=>exact absurd rfl hL0|cons=>simp
   clear hL0;obtain⟨g,o,rfl,hBI⟩:=HBA.out.in_ hlen1;obtain⟨i5,hi,hz0,hz1,hz2⟩:=info5;have HI:=hide' (And.intro hi (And.intro hz0 (And.intro hz1 hz2)));clear hi hz0 hz1 hz2;have HNw:Hid (∀q' (j:Nat) (x:Value),(byC L)[j]?=some x→((w.setCell ⟨D,2,none⟩ (.int .i64 ((u:Int)+k))).drewN q').cell? ((⟨g,o,none⟩:Addr).add j)=some x):=fun q' j x hx=>by
    have hadd:(⟨g,o,none⟩:Addr).add j=⟨g,o+j,none⟩:=by unfold Addr.add;split<;>simp_all
    have hj:j<L.length:=by have:=(List.getElem?_eq_some_iff.1 hx).1;rw[byC_len]at this;exact this
    rw[byC_get hj]at hx;cases hx;rw[hadd];exact hBI.by_ j hj
   have HLL:=hide' (byC_len L);generalize hLn:L.length=nL at*;have HLn2:=hide' hLn;clear hLn HLn HWt HLn0 hBI;go_wp2_with (first
    |(at_builtin;refine wpList_append_lies _ rfl _ _ _ rfl 0 5 i5 (.int .u8 0) 1 1 Tryz.underlying80 HI.out.1 HI.out.2.1 HI.out.2.2.1 HI.out.2.2.2 rfl (by omega) (.slice none 0 0) 0 [] rfl (World.ownsRow_nil _ _ _ _) ⟨g,o,none⟩ nL c (byC L) rfl (by rw[HLL.out];omega) (HNw.out _) (byC_one L) (by omega) (by unfold maxLen;omega) (by omega) (by omega) _ rfl ?_;intro g2 cap w4 hown hgrow hat hlt4;have HF:=hide' (And.intro hown (And.intro (grown_below hgrow) hat));obtain⟨f0,f1,f2,f3,f4,ff⟩:=rdCells ((((grown_below hgrow).block D (by simpa using hlt)).trans HH.out.2.1).trans (show _=some (rdO t v (u+k) ps cl)from rfl));clear hown hgrow hat)
    |fail)
   go_end0;have hg2:g2=w.heap.size:=by
    rcases HF.out.2.2 with h|h
    ·cases h
    ·simpa using h
   have hwr:=HF.out.1;have hb4:=HF.out.2.1;rw[Nat.zero_add,List.nil_append]at hwr;refine⟨rfl,?_⟩;have hD4:=((hb4.block D (by simpa using hlt)).trans HH.out.2.1)
   have hD5:=(blkSet (i:=2) (blkSet (i:=1) hD4 (.slice (some ⟨g2,0,none⟩) nL cap)) (.int .i64 0))
   refine⟨⟨some g2,⟨⟨.slice (some ⟨g2,0,none⟩) nL cap,0,hD5.trans rfl,?_,.inl rfl⟩,by simp;omega⟩,.inr (.inr ⟨g2,rfl,by omega⟩)⟩,.of_turn ((((HH.out.2.2.drewN _).trans (.of_below hb4)).setCell 1 _).setCell 2 _)⟩;have h0:Held w4 (.slice (some ⟨g2,0,none⟩) nL cap) 0 (some g2) L:=⟨⟨L,by rw[HLn2.out];exact hwr,Nat.zero_le _,rfl,by rw[HLn2.out];omega⟩,rfl⟩
   refine h0.other (fun b hb'=>?_);cases hb';rw[Below.heap_setCell _ ⟨D,2,none⟩ _ _ (by show g2≠D;omega),Below.heap_setCell _ ⟨D,1,none⟩ _ _ (by show g2≠D;omega)]
 ·have hge':¬((held.drop k).length:Int)≤(u:Int)+k:=by omega
  generalize hL:held.drop k=L at*;have hL':=hide' hL;clear hL;go_enter Tryz.func126,Tryz.ntmps126;go_wp2;go_quiet ((go_at_call 74;exact Calls.quiet_of (HLn.out _)))
  go_wp2;go_end0;refine⟨rfl,?_⟩;refine⟨⟨hb,⟨⟨v,u+k,?_,?_,.inr (by show u+k<L.length;omega)⟩,hne⟩,.inl rfl⟩,.of_turn (HH.out.2.2.drewN _)⟩
  ·exact HH.out.2.1.trans rfl
  ·exact HH.out.1.other (fun _ _=>rfl)
set_option maxHeartbeats 1500000
set_option maxRecDepth 20000
variable {w a:World}{D t:Nat}{hb:Option Nat}{s:St}{v:Value}
theorem index_any (a:Option Addr)(n c:Nat)(l:List UInt8)(w:World)(hB:BytesA w a n c l)(hnil:a=none→c=0):Calls Tryz.prog 124 #[.slice a n c,.int .u8 10] w fun e w'=>e= .returned (.int .i64 (Go.Lib.indexByte l 10))∧w'=w:=by
 have hl:=hB.len;cases ha:a with
 |none=>
  have h0:n=0:=by
   rcases Nat.eq_zero_or_pos n with h|h
   ·exact h
   ·obtain⟨g,o,e,_⟩:=hB.by_ 0 h;rw[ha]at e;cases e
  have hbs:l=[]:=List.length_eq_zero_iff.1 (by omega);rw[h0,hnil ha,hbs];exact Tryz.bytes_IndexByte_nil 10 w
 |some ad=>
  have:=Tryz.bytes_IndexByte_at ad n c (l.map fun b=>(b.toNat:Int)) 10 w (by rw[List.length_map,hl]) (fun i hi=>by
   obtain⟨g,o,e,hc⟩:=hB.by_ i (by omega);rw[ha]at e;cases e;have hadd:(⟨g,o,none⟩:Addr).add i=⟨g,o+i,none⟩:=by unfold Addr.add;split<;>simp_all
   rw[hadd,hc];have hi2:i<l.length:=by omega
   simp[byAt,List.getD,List.getElem?_eq_getElem hi2])
  rw[libBytes]at this;exact this
theorem RdrAt.setPass (R:RdrAt w D hb t s)(q:Nat)(b:Bool):RdrAt ((w.drewN q).setCell ⟨D,3,none⟩ (.bool b)) D hb t ⟨s.held,b,s.closed⟩:=by
 obtain⟨⟨v,u,hD,H,hiv⟩,hne⟩:=R;refine⟨⟨v,u,?_,H.other (fun k hk=>?_),hiv⟩,hne⟩
 ·have hD':(w.drewN q).heap[D]?=some (rdO t v u s.pass s.closed):=hD;exact(blkSet (i:=3) hD' (.bool b)).trans rfl
 ·exact Below.heap_setCell (w.drewN q) ⟨D,3,none⟩ _ k (by intro e;apply hne;rw[hk,e])
theorem RdrAt.drewN (R:RdrAt w D hb t s)(q:Nat):RdrAt (w.drewN q) D hb t s:=by
 obtain⟨⟨v,u,hD,H,hiv⟩,hne⟩:=R;exact⟨⟨v,u,hD,H.other (fun _ _=>rfl),hiv⟩,hne⟩
theorem Turn2.drewN (h:Turn2 D hb a w)(q:Nat):Turn2 D hb a (w.drewN q):=⟨h.os,h.tape,h.output,h.size,h.block⟩
theorem RdrTo.after {b c:World}(h:Turn2 D hb a b)(k:RdrTo b c D hb t s):RdrTo a c D hb t s:=by
 obtain⟨⟨hb2,R2,F2⟩,T2⟩:=k;exact⟨⟨hb2,R2,Fresh.trans (a:=a) (.inl rfl) F2 h.size⟩,h.trans T2 (.inl rfl)⟩
theorem passLine_any (D t:Nat)(hb:Option Nat)(s:St)(w:World)(R:RdrAt w D hb t s)(hsm:s.held.length≤140737488355328):Calls Tryz.prog 88 #[.pointer (some ⟨D,1,none⟩)] w fun e w'=>e= .returned (.tuple #[])∧RdrTo w w' D hb t ⟨(passL s.held).1,(passL s.held).2,s.closed⟩:=by
 have HR:=hide' R;obtain⟨⟨v,u,hD,H,hiv⟩,hne⟩:=R;obtain⟨d0,d1,d2,d3,d4,df⟩:=rdCells hD;have hlt:=blkLt hD;have HWt:=hide' (waiting_any D u v hb s.held w H d1 d2);have hge:=Go.Lib.indexByte_ge s.held 10;have HP:Hid (passL s.held=if 0≤Go.Lib.indexByte s.held 10 then(s.held.drop ((Go.Lib.indexByte s.held 10).toNat+1),false)else([],true)):=(show _=_ from rfl)
 have HIx:=hide' (fun a n c W (h:BytesA W a n c s.held) hn=>index_any a n c s.held W h hn);have HX:Hid (0≤Go.Lib.indexByte s.held 10→(Go.Lib.indexByte s.held 10).toNat<s.held.length):=fun h=>(ib_nonneg_app s.held [] 10 h).2.1
 have HH:=hide' (And.intro H hD);generalize Go.Lib.indexByte s.held 10=ix at*;generalize hPL:passL s.held=PL at*;have HPL:=hide' hPL;clear hD H hPL;have hTurn:∀q b,Turn2 D hb w ((w.drewN q).setCell ⟨D,3,none⟩ (.bool b)):=fun q b=> .of_turn (((Turn.refl D w).drewN q).setCell 3 _)
 have HTn:=hide' hTurn;clear hTurn;by_cases h0:0≤ix
 ·have h0':¬ix<0:=by omega
  have hlx:=HX.out h0;have hpl:=HP.out;rw[if_pos h0]at hpl;subst hpl;obtain⟨e,rfl⟩:∃e:Nat,ix=(e:Int):=⟨ix.toNat,by omega⟩
  rw[Int.toNat_natCast]at hlx;have HU:=hide' (fun q=>use_any D t (e+1) hb ⟨s.held,false,s.closed⟩ _ (HR.out.setPass q false) (by show e+1≤s.held.length;omega));clear HP HX HPL;simp only[Int.toNat_natCast]
  go_enter Tryz.func88,Tryz.ntmps88;go_wp2_with fail
  go_at_call 125;refine HWt.out.mono ?_;rintro r w2 ⟨⟨a,c,rfl,hBA,hnil,_⟩,q,rfl⟩;have HIX2:=hide' (HIx.out a _ c (w.drewN q) (hBA.later (below_drewN (Below.refl _ _) q)) hnil);have d3':((w.drewN q).setCell ⟨D,3,none⟩ (.bool false)).cell? ⟨D,3,none⟩=some (.bool false):=World.cell?_setCell_same' _ _ _ (by show(w.cell? ⟨D,3,none⟩).isSome=true;rw[d3];rfl);clear hBA hnil HIx HWt;go_wp2_with (first
   |(go_at_call 124;refine HIX2.out.mono ?_;rintro r w2 ⟨rfl,hw2⟩;subst hw2)
   |fail)
  go_at_call 126;refine(HU.out _).mono ?_;rintro r w3 ⟨rfl,T3⟩;have HT3:=hide' T3;clear T3 HU;go_wp2;go_end0;exact⟨rfl,HT3.out.after (HTn.out q false)⟩
 ·have h0':ix<0:=by omega
  have hpl:=HP.out;rw[if_neg h0]at hpl;subst hpl;have HU:=hide' (fun q q2=>use_any D t s.held.length hb ⟨s.held,true,s.closed⟩ _ ((HR.out.setPass q true).drewN q2) (Nat.le_refl _));have HLn:=hide' (fun q=>len_any D u v hb s.held ((w.drewN q).setCell ⟨D,3,none⟩ (.bool true)) (HH.out.1.other (fun k hk=>Below.heap_setCell (w.drewN q) ⟨D,3,none⟩ _ k (by intro e;apply hne;rw[hk,e]))) (by go_simp) (by go_simp));have hdl:s.held.drop s.held.length=[]:=by simp
  simp only[hdl]at HU;clear HP HX HPL hdl;generalize s.held=hl at*;generalize hll:hl.length=n at*;have HLL:=hide' hll;clear hll;simp only
  go_enter Tryz.func88,Tryz.ntmps88;go_wp2_with fail
  go_at_call 125;refine HWt.out.mono ?_;rintro r w2 ⟨⟨a,c,rfl,hBA,hnil,_⟩,q,rfl⟩;have HIX2:=hide' (HIx.out a _ c (w.drewN q) (hBA.later (below_drewN (Below.refl _ _) q)) hnil);have d3':((w.drewN q).setCell ⟨D,3,none⟩ (.bool true)).cell? ⟨D,3,none⟩=some (.bool true):=World.cell?_setCell_same' _ _ _ (by show(w.cell? ⟨D,3,none⟩).isSome=true;rw[d3];rfl);have HLn2:=hide' (HLn.out q);clear hBA hnil HIx HWt HLn;go_wp2_with (first
   |(go_at_call 124;refine HIX2.out.mono ?_;rintro r w2 ⟨rfl,hw2⟩;subst hw2)
   |(go_at_call 74;refine HLn2.out.mono ?_;rintro r w2 ⟨rfl,q2,hw2⟩;subst hw2)
   |fail)
  go_at_call 126;refine(HU.out q q2).mono ?_;rintro r w3 ⟨rfl,T3⟩;have HT3:=hide' T3;clear T3 HU;go_wp2;go_end0;exact⟨rfl,HT3.out.after ((HTn.out q true).drewN q2)⟩
theorem close_any (D t:Nat)(hb:Option Nat)(s:St)(w:World)(R:RdrAt w D hb t s):Calls Tryz.prog 154 #[.pointer (some ⟨D,1,none⟩)] w fun e w'=>e= .returned (.tuple #[])∧RdrTo w w' D hb t ⟨[],false,true⟩:=by
 obtain⟨⟨v,u,hD,H,hiv⟩,hne⟩:=R;obtain⟨d0,d1,d2,d3,d4,df⟩:=rdCells hD;have HD:=hide' hD;clear hD H;go_enter Tryz.func154,Tryz.ntmps154;go_wp2;go_end0;refine⟨rfl,⟨⟨none,⟨⟨.slice none 0 0,0,?_,⟨⟨[],World.ownsRow_nil _ _ _ _,Nat.le_refl _,rfl,by simp⟩,rfl⟩,.inl rfl⟩,by simp⟩,.inr (.inl rfl)⟩,.of_turn ?_⟩⟩
 ·exact(blkSet (i:=4) (blkSet (i:=3) (blkSet (i:=2) (blkSet (i:=1) HD.out (.slice none 0 0)) (.int .i64 0)) (.bool false)) (.bool true)).trans rfl
 ·exact((((Turn.refl D w).setCell 1 _).setCell 2 _).setCell 3 _).setCell 4 _
theorem run_append_str (w:World)(v:Value)(n:Nat)(xs:List Value)(ty:TypeId)(hown:w.ownsRow 0 5 1 v n xs)(s:ByteArray)(hb:n+s.size≤140737488355328):∃v' w',(Builtin.append_ #[80,9] ty #[v,.string s]).run Tryz.prog w= .ok v' w'∧w'.ownsRow 0 5 1 v' (n+s.size) (xs++Lib.strCells s)∧w.grownBy w' v.ownBlock∧(v'.ownBlock=v.ownBlock∨v'.ownBlock=some w.heap.size):=by
 obtain⟨i5,hi,hz0,hz1,hz2⟩:=info5;obtain⟨v',w',hr,h2,h3,h4⟩:=Lib.run_append_own_string (P:=Tryz.prog) w 0 80 9 ty 5 i5 Tryz.underlying80 Tryz.underlying9 hi hz0 hz1 hz2 v n xs hown s (by unfold maxLen;omega) hb (Nat.zero_le _);refine⟨v',w',hr,h2,h3,?_⟩;obtain⟨hl,⟨rfl,rfl⟩|⟨g,cap,cur,rfl,hg0,hg,hnc,hcm,hcs,htk⟩⟩:=hown
 ·by_cases h0:s.size=0
  ·left;rw[h4.2 ⟨rfl,h0⟩]
  ·right;rw[run_append_nil_string (P:=Tryz.prog) w 80 9 ty 5 i5 _ Tryz.underlying80 Tryz.underlying9 hi hz0 s (by omega) (by omega) (by rw[hz2];omega)]at hr;simp only[Result.ok.injEq]at hr;rw[←hr.1];rfl
 ·by_cases hroom:n+s.size≤cap
  ·left;rw[Lib.run_append_room_string (P:=Tryz.prog) w 80 9 ty 5 i5 Tryz.underlying80 Tryz.underlying9 hi hz1 g n cap cur hg s hroom (by omega)]at hr;simp only[Result.ok.injEq]at hr;rw[←hr.1];rfl
  ·right;rw[Lib.run_append_grow_string (P:=Tryz.prog) w 80 9 ty 5 i5 _ Tryz.underlying80 Tryz.underlying9 hi hz0 ⟨g,0,none⟩ n cap xs (by rw[hz1];omega) (fun j u hu=>by
    have hadd:(⟨g,0,none⟩:Addr).add j=⟨g,j,none⟩:=by unfold Addr.add;split<;>simp_all
    rw[hadd,blkCell hg j];rw[←htk]at hu;have hj:j<n*1:=by have:=(List.getElem?_eq_some_iff.1 hu).1;simp at this;omega
    rw[List.getElem?_take_of_lt hj]at hu;simpa using hu) s (by omega) (by omega) (by rw[hz2];exact growslice_fits (by omega) (by omega))]at hr
   simp only[Result.ok.injEq]at hr;rw[←hr.1];rfl
theorem wpList_append_str (w:World){ops:Array Oper}{rest:List Oper}{o:Oper}{a:Act}{Q:Exit→Act→World→Prop}(hgd:o.guard=none)(sl x:Operand)(ho:o.op= .call {callee:= .builtin .append,args:=#[sl,x],argTypes:=#[80,9]})(v:Value)(n:Nat)(xs:List Value)(hs:a.eval sl=v)(hown:w.ownsRow 0 5 1 v n xs)(s:ByteArray)(hx:a.eval x= .string s)(hb:n+s.size≤140737488355328)(h:∀v' w',w'.ownsRow 0 5 1 v' (n+s.size) (xs++Lib.strCells s)→w.grownBy w' v.ownBlock→(v'.ownBlock=v.ownBlock∨v'.ownBlock=some w.heap.size)→wpList Tryz.prog ops Q rest (a.put o.dst v') w'):wpList Tryz.prog ops Q (o::rest) a w:=by
 refine wpList_plain hgd fun K hK=>?_
 obtain⟨v',w',hr,h2,h3,h4⟩:=run_append_str w v n xs o.type hown s hb;unfold Oper.wp execOp;simp only[ho,resolve,invoke,builtin,Sem.run_bind,Sem.run_pure,Result.andThen_ok,List.map_toArray,List.map_cons,List.map_nil,hs,hx,hr]
 exact hK _ _ (h v' w' h2 h3 h4)
theorem strCells_byC (s:ByteArray):Lib.strCells s=byC s.data.toList:=rfl
theorem own_form {base e size n:Nat}{xs:List Value}(h:w.ownsRow base e size v n xs):∃a n c,v= .slice a n c:=by
 rcases h.2 with⟨h,_⟩|⟨g,cap,cur,h,_⟩
 ·exact⟨_,_,_,h⟩
 ·exact⟨_,_,_,h⟩
theorem took {w1:World}{u:Nat}{v1:Value}{held all:List UInt8}{ps cl:Bool}{piece:ByteArray}(hD:w.heap[D]?=some (rdO t v u ps cl))(hne:hb≠some D)(hbk:v.ownBlock=hb)(h2:u≤all.length)(h3:held=all.drop u)(hiv:u=0∨u<held.length)(hsz:all.length+piece.size≤140737488355328)(hown:w1.ownsRow 0 5 1 v1 (all.length+piece.size) (byC all++Lib.strCells piece))(hgrow:w.grownBy w1 v.ownBlock)(hat:v1.ownBlock=v.ownBlock∨v1.ownBlock=some w.heap.size):RdrTo w (w1.setCell ⟨D,1,none⟩ v1) D hb t ⟨held++piece.data.toList,ps,cl⟩∧w1.heap[D]?=some (rdO t v u ps cl):=by
 have hlt:=blkLt hD;have hnD:some D≠v.ownBlock:=by rw[hbk];exact fun e=>hne e.symm
 have hD1:=(hgrow.block D hlt hnD).trans hD;have hv1:v1.ownBlock≠some D:=by
  rcases hat with h|h
  ·rw[h,hbk];exact hne
  ·rw[h];simp;omega
 have hln:(all++piece.data.toList).length=all.length+piece.size:=by simp
 refine⟨⟨⟨v1.ownBlock,⟨⟨v1,u,(blkSet (i:=1) hD1 v1).trans rfl,?_,?_⟩,hv1⟩,?_⟩,?_⟩,hD1⟩
 ·have H1:Held w1 v1 u v1.ownBlock (held++piece.data.toList):=⟨⟨all++piece.data.toList,by rw[byC_app,hln,←strCells_byC];exact hown,by simp;omega,by rw[h3,List.drop_append_of_le_length h2],by rw[hln];exact hsz⟩,rfl⟩
  exact H1.other (fun k hk=>Below.heap_setCell w1 ⟨D,1,none⟩ _ k (by intro e;apply hv1;rw[hk,e]))
 ·rcases hiv with h|h
  ·exact .inl h
  ·right;show u<(held++piece.data.toList).length;simp;omega
 ·rcases hat with h|h
  ·exact .inl (by rw[h,hbk])
  ·exact .inr (.inr ⟨_,h,Nat.le_refl _⟩)
 ·refine⟨hgrow.os,hgrow.tape,hgrow.output,?_,fun k hk hn hh=>?_⟩
  ·have:=hgrow.size;simpa using this
  ·exact(Below.heap_setCell w1 ⟨D,1,none⟩ _ k hn).trans (hgrow.block k hk (by rw[hbk];exact hh))
theorem take_any (D t:Nat)(hb:Option Nat)(s:St)(piece:ByteArray)(w:World)(R:RdrAt w D hb t s)(hsm:2*s.held.length+piece.size≤140737488355328):Calls Tryz.prog 58 #[.pointer (some ⟨D,1,none⟩),.string piece] w fun e w'=>e= .returned (.tuple #[])∧RdrTo w w' D hb t (takeS s piece.data.toList):=by
 have HR:=hide' R;obtain⟨⟨v,u,hD,H,hiv⟩,hne⟩:=R;obtain⟨held,ps,cl⟩:=s;simp only at hD H hiv hsm;obtain⟨d0,d1,d2,d3,d4,df⟩:=rdCells hD;have hlt:=blkLt hD;cases cl with
 |true=>
  have e:takeS ⟨held,ps,true⟩ piece.data.toList=⟨held,ps,true⟩:=rfl;rw[e];clear hD H hiv e;go_enter Tryz.func58,Tryz.ntmps58;go_wp2;refine bodyPost_ret (results_none rfl _ _ _) rfl ?_;exact⟨rfl,⟨⟨hb,HR.out,.inl rfl⟩,Turn2.refl _ _ _⟩⟩
 |false=>
  obtain⟨⟨all,h1,h2,h3,h4⟩,hbk⟩:=H;have hl:held.length=all.length-u:=by rw[h3];simp
  have hsz:all.length+piece.size≤140737488355328:=by omega
  have hp1:piece.size≤140737488355328:=by omega
  have HT:=hide' (fun w1 v1 a b c=>took (w1:=w1) (v1:=v1) hD hne hbk h2 h3 hiv hsz a b c);obtain⟨va,vn,vc,hvf⟩:=own_form h1;subst hvf;have H1:=hide' h1;cases ps with
  |false=>
   have e:takeS ⟨held,false,false⟩ piece.data.toList=⟨held++piece.data.toList,false,false⟩:=rfl;rw[e];clear hD h1 h2 h3 h4 hiv e hbk hl;go_enter Tryz.func58,Tryz.ntmps58;go_wp2_with (first
    |(at_builtin;refine wpList_append_str _ rfl _ _ rfl (.slice va vn vc) all.length (byC all) rfl H1.out piece rfl hsz ?_;intro v1 w1 a b c;obtain⟨ua,un,uc,huf⟩:=own_form a;subst huf;have HK:=hide' (HT.out w1 _ a b c);clear a b c;obtain⟨f0,f1,f2,f3,f4,ff⟩:=rdCells HK.out.2)
    |fail)
   go_end0;exact⟨rfl,HK.out.1⟩
  |true=>
   have e:takeS ⟨held,true,false⟩ piece.data.toList=⟨(passL (held++piece.data.toList)).1,(passL (held++piece.data.toList)).2,false⟩:=rfl;rw[e];clear hD h1 h2 h3 h4 hiv e hbk;have hln:(held++piece.data.toList).length≤140737488355328:=by simp;omega
   have HPL:=hide' (fun W hb' (R:RdrAt W D hb' t ⟨held++piece.data.toList,true,false⟩)=>passLine_any D t hb' ⟨held++piece.data.toList,true,false⟩ W R hln);simp only at HPL;clear hln;generalize passL (held++piece.data.toList)=PL at*;go_enter Tryz.func58,Tryz.ntmps58;go_wp2_with (first
    |(at_builtin;refine wpList_append_str _ rfl _ _ rfl (.slice va vn vc) all.length (byC all) rfl H1.out piece rfl hsz ?_;intro v1 w1 a b c;obtain⟨ua,un,uc,huf⟩:=own_form a;subst huf;have HK:=hide' (HT.out w1 _ a b c);clear a b c;obtain⟨f0,f1,f2,f3,f4,ff⟩:=rdCells HK.out.2)
    |fail)
   go_at_call 88;obtain⟨hb2,R2,F2⟩:=HK.out.1.ex;refine(HPL.out _ hb2 R2).mono ?_;rintro r w3 ⟨rfl,T3⟩;have HT3:=hide' (And.intro T3 (And.intro R2 F2));clear T3 R2 F2;go_wp2;go_end0;refine⟨rfl,?_⟩;obtain⟨T3,R2,F2⟩:=HT3.out;obtain⟨⟨hb3,R3,F3⟩,T4⟩:=T3;exact⟨⟨hb3,R3,F2.trans F3 HK.out.1.turn.size⟩,HK.out.1.turn.trans T4 F2⟩
end Go.Proofs.YtlonjggfnleolaaGreatDoor
