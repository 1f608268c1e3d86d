import Derived.Test.YtlonjggfnleolaaGreatDoorJuQa
import Derived.Maps.RangeRun
namespace Go.Proofs.YtlonjggfnleolaaGreatDoor
open Go.RowKit Go.Shelf
set_option linter.unusedVariables false
set_option maxHeartbeats 1500000
set_option maxRecDepth 20000
variable {w:World}{D u:Nat}{v:Value}{ps cl:Bool}
structure SvP where
 dn:Bool
 nx:Nat
 m:Nat
 bp:Value
 bv:Value
def svP (t:SvP)(v:Value)(u:Nat)(ps cl:Bool):Obj:=svO t.dn t.nx t.m v (u:Int) ps cl t.bp t.bv
theorem siCells {t:SvP}(h:w.heap[D]?=some (svP t v u ps cl)):
 w.cell? ⟨D,0,none⟩=some (.bool t.dn)∧w.cell? ⟨D,3,none⟩=some v∧w.cell? ⟨D,4,none⟩=some (.int .i64 (u:Int))∧w.cell? ⟨D,5,none⟩=some (.bool ps)∧w.cell? ⟨D,6,none⟩=some (.bool cl)∧(∀j,w.frozen? ⟨D,j,none⟩=false):=
 ⟨blkCell h 0,blkCell h 3,blkCell h 4,blkCell h 5,blkCell h 6,blkFree h⟩
theorem sLen_any (D u:Nat)(v:Value)(hb:Option Nat)(l:List UInt8)(w:World)(H:Held w v u hb l)(d1:w.cell? ⟨D,3,none⟩=some v)(d2:w.cell? ⟨D,4,none⟩=some (.int .i64 (u:Int))):Calls Tryz.prog 74 #[.pointer (some ⟨D,3,none⟩)] w fun e w'=>e= .returned (.int .i64 (l.length:Int))∧∃q,w'=w.drewN q:=by
 rcases H.form with⟨rfl,rfl,rfl,_⟩|⟨g,n,c,all,rfl,_,_,hn,hnc,hu,rfl,hsm,_⟩
 ·clear H;go_enter Tryz.func74,Tryz.ntmps74;go_wp2;go_quiet (fail)
  go_wp2;go_ret;exact⟨rfl,_,rfl⟩
 ·clear H;have hl:Hid ((all.drop u).length=n-u):=by show _=_;rw[List.length_drop,hn]
  clear hn;go_enter Tryz.func74,Tryz.ntmps74;go_wp2;go_quiet (fail)
  go_wp2;go_ret;refine⟨?_,_,rfl⟩;rw[hl.out];exact ret_int (by omega)
theorem sWaiting_any (D u:Nat)(v:Value)(hb:Option Nat)(l:List UInt8)(w:World)(H:Held w v u hb l)(d1:w.cell? ⟨D,3,none⟩=some v)(d2:w.cell? ⟨D,4,none⟩=some (.int .i64 (u:Int))):Calls Tryz.prog 125 #[.pointer (some ⟨D,3,none⟩)] w fun e w'=>(∃a c,e= .returned (.slice a l.length c)∧BytesA w a l.length c l∧(a=none→c=0)∧(∀g o,a=some ⟨g,o,none⟩→hb=some g))∧∃q,w'=w.drewN q:=by
 rcases H.form with⟨rfl,rfl,rfl,_⟩|⟨g,n,c,all,rfl,hbg,hg,hn,hnc,hu,rfl,hsm,hcell⟩
 ·clear H;go_enter Tryz.func125,Tryz.ntmps125;go_wp2;go_quiet (fail)
  go_wp2;go_ret;exact⟨⟨none,0,rfl,⟨rfl,Nat.le_refl _,by simp,fun g o e=>(by cases e),fun i hi=>(by cases hi)⟩,fun _=>rfl,fun g o e=>(by cases e)⟩,_,rfl⟩
 ·clear H;have HL:Hid ((all.drop u).length=n-u):=by show _=_;rw[List.length_drop,hn]
  have HC:=hide' hcell;have HN:=hide' hn;clear hn hcell;have hu':(u:Int)≤(n:Int):=by omega
  have huc:(u:Int)≤(c:Int):=by omega
  have huc':u≤c:=by omega
  by_cases hc:c=u
  ·subst hc;have hnu:n=c:=by omega
   subst hnu;go_enter Tryz.func125,Tryz.ntmps125;go_wp2;go_quiet (fail)
   go_wp2;go_ret;refine⟨⟨some ⟨g,0,none⟩,0,?_,⟨rfl,?_,?_,fun g' o' e=>?_,fun i hi=>?_⟩,fun h=>(by cases h),fun g' o' e=>(by cases e;exact hbg)⟩,_,rfl⟩
   ·rw[HL.out];simp
   ·rw[HL.out];omega
   ·rw[HL.out];omega
   ·cases e;exact hg
   ·rw[HL.out]at hi;omega
  ·go_enter Tryz.func125,Tryz.ntmps125;go_wp2;go_quiet (fail)
   go_wp2;go_ret;refine⟨⟨some ⟨g,u,none⟩,c-u,?_,⟨rfl,?_,?_,fun g' o' e=>?_,fun i hi=>?_⟩,fun h=>(by cases h),fun g' o' e=>(by cases e;exact hbg)⟩,_,rfl⟩
   ·rw[HL.out];congr 2<;>first|omega|simp
   ·rw[HL.out];omega
   ·rw[HL.out];omega
   ·cases e;exact hg
   ·rw[HL.out]at hi;refine⟨g,u,rfl,?_⟩;rw[HC.out (u+i) (by omega)];simp[byAt,List.getD]
structure SInAt (w:World)(D:Nat)(hb:Option Nat)(t:SvP)(s:St):Prop where
 ex:∃v u,w.heap[D]?=some (svP t v u s.pass s.closed)∧Held w v u hb s.held∧(u=0∨u<s.held.length)
 ne:hb≠some D
structure SInTo (w w':World)(D:Nat)(hb:Option Nat)(t:SvP)(s:St):Prop where
 ex:∃hb',SInAt w' D hb' t s∧Fresh w hb hb'
 turn:Turn2 D hb w w'
theorem sUse_any (D k:Nat)(t:SvP)(hb:Option Nat)(s:St)(w:World)(R:SInAt w D hb t s)(hk:k≤s.held.length):Calls Tryz.prog 126 #[.pointer (some ⟨D,3,none⟩),.int .i64 (k:Int)] w fun e w'=>e= .returned (.tuple #[])∧SInTo w w' D hb t ⟨s.held.drop k,s.pass,s.closed⟩:=by
 obtain⟨⟨v,u,hD,H,_⟩,hne⟩:=R;obtain⟨held,ps,cl⟩:=s;simp only at hD H hk;obtain⟨d0,d1,d2,d3,d4,df⟩:=siCells hD;have hlt:=blkLt hD;have H1:Held (w.setCell ⟨D,4,none⟩ (.int .i64 ((u:Int)+k))) v (u+k) hb (held.drop k):=by
  obtain⟨⟨all,h1,h2,h3,h4⟩,hbk⟩:=H;have hl:held.length=all.length-u:=by rw[h3];simp
  have:Held w v (u+k) hb (held.drop k):=⟨⟨all,h1,by omega,by rw[h3,List.drop_drop],h4⟩,hbk⟩
  exact this.other (fun b hb'=>Below.heap_setCell w ⟨D,4,none⟩ _ b (by intro e;apply hne;rw[hb',e]))
 have hub:u+k≤140737488355328:=by
  obtain⟨⟨all,h1,h2,h3,h4⟩,hbk⟩:=H;have hl:held.length=all.length-u:=by rw[h3];simp
  omega
 have hD1:=blkSet (i:=4) hD (.int .i64 ((u:Int)+k));have d1':(w.setCell ⟨D,4,none⟩ (.int .i64 ((u:Int)+k))).cell? ⟨D,3,none⟩=some v:=by go_simp
 have d2':(w.setCell ⟨D,4,none⟩ (.int .i64 ((u:Int)+k))).cell? ⟨D,4,none⟩=some (.int .i64 ((u:Int)+k)):=World.cell?_setCell_same' _ _ _ (by rw[d2];rfl);have hT1:Turn D w (w.setCell ⟨D,4,none⟩ (.int .i64 ((u:Int)+k))):=(Turn.refl D w).setCell 4 _;have hlen:(held.drop k).length≤140737488355328:=by
  obtain⟨⟨all,h1,h2,h3,h4⟩,hbk⟩:=H1;rw[h3];simp;omega
 have HH:=hide' (And.intro H1 (And.intro hD1 hT1));clear H H1 hD1 hT1 hD;have d2c:(w.setCell ⟨D,4,none⟩ (.int .i64 ((u:Int)+k))).cell? ⟨D,4,none⟩=some (.int .i64 ((u+k:Nat):Int)):=d2';have HLn:=hide' (fun q=>sLen_any D (u+k) v hb (held.drop k) ((w.setCell ⟨D,4,none⟩ (.int .i64 ((u:Int)+k))).drewN q) (HH.out.1.other (fun _ _=>rfl)) d1' d2c);have HLn0:=hide' (sLen_any D (u+k) v hb (held.drop k) (w.setCell ⟨D,4,none⟩ (.int .i64 ((u:Int)+k))) HH.out.1 d1' d2c);have HWt:=hide' (fun q=>sWaiting_any D (u+k) v hb (held.drop k) ((w.setCell ⟨D,4,none⟩ (.int .i64 ((u:Int)+k))).drewN q) (HH.out.1.other (fun _ _=>rfl)) d1' d2c);clear d2c;by_cases hge:(held.drop k).length≤u+k
 ·have hge':((held.drop k).length:Int)≤(u:Int)+k:=by omega
  generalize hL:held.drop k=L at*;have hL':=hide' hL;clear hL;go_enter Tryz.func126,Tryz.ntmps126;go_wp2;go_quiet ((go_at_call 74;exact Calls.quiet_of (HLn.out _)))
  go_wp2_with fail
  go_at_call 125;refine(HWt.out _).mono ?_;rintro e w2 ⟨⟨a,c,rfl,hBA,hnil,_⟩,q,rfl⟩;have HBA:=hide' hBA;have HNil:=hide' hnil;clear hBA hnil;by_cases hL0:L=[]
  ·subst hL0;have d1w:=d1';have fin:∀q',SInTo w ((((w.setCell ⟨D,4,none⟩ (.int .i64 ((u:Int)+k))).drewN q').setCell ⟨D,3,none⟩ (.slice none 0 0)).setCell ⟨D,4,none⟩ (.int .i64 0)) D hb t ⟨[],ps,cl⟩:=by
    intro q';refine⟨⟨none,⟨⟨.slice none 0 0,0,?_,⟨⟨[],World.ownsRow_nil _ _ _ _,Nat.le_refl _,rfl,by simp⟩,rfl⟩,.inl rfl⟩,by simp⟩,.inr (.inl rfl)⟩,.of_turn (((HH.out.2.2.drewN q').setCell 3 _).setCell 4 _)⟩;have e1':((w.setCell ⟨D,4,none⟩ (.int .i64 ((u:Int)+k))).drewN q').heap[D]?=_:=HH.out.2.1;exact(blkSet (i:=4) (blkSet (i:=3) e1' (.slice none 0 0)) (.int .i64 0)).trans rfl
   cases a with
   |none=>
    have hc0:c=0:=HNil.out rfl;subst hc0;clear HLn HWt HLn0;go_wp2;go_end0;exact⟨rfl,fin _⟩
   |some ad=>
    clear HLn HWt HLn0;go_wp2;go_end0;exact⟨rfl,fin _⟩
  ·have hlen1:1≤L.length:=by cases L with|nil=>exact absurd rfl hL0|cons=>simp
   clear hL0;obtain⟨g,o,rfl,hBI⟩:=HBA.out.in_ hlen1;obtain⟨i5,hi,hz0,hz1,hz2⟩:=info5;have HI:=hide' (And.intro hi (And.intro hz0 (And.intro hz1 hz2)));clear hi hz0 hz1 hz2;have HNw:Hid (∀q' (j:Nat) (x:Value),(byC L)[j]?=some x→((w.setCell ⟨D,4,none⟩ (.int .i64 ((u:Int)+k))).drewN q').cell? ((⟨g,o,none⟩:Addr).add j)=some x):=fun q' j x hx=>by
    have hadd:(⟨g,o,none⟩:Addr).add j=⟨g,o+j,none⟩:=by unfold Addr.add;split<;>simp_all
    have hj:j<L.length:=by have:=(List.getElem?_eq_some_iff.1 hx).1;rw[byC_len]at this;exact this
    rw[byC_get hj]at hx;cases hx;rw[hadd];exact hBI.by_ j hj
   have HLL:=hide' (byC_len L);generalize hLn:L.length=nL at*;have HLn2:=hide' hLn;clear hLn HLn HWt HLn0 hBI;go_wp2_with (first
    |(at_builtin;refine wpList_append_lies _ rfl _ _ _ rfl 0 5 i5 (.int .u8 0) 1 1 Tryz.underlying80 HI.out.1 HI.out.2.1 HI.out.2.2.1 HI.out.2.2.2 rfl (by omega) (.slice none 0 0) 0 [] rfl (World.ownsRow_nil _ _ _ _) ⟨g,o,none⟩ nL c (byC L) rfl (by rw[HLL.out];omega) (HNw.out _) (byC_one L) (by omega) (by unfold maxLen;omega) (by omega) (by omega) _ rfl ?_;intro g2 cap w4 hown hgrow hat hlt4;have HF:=hide' (And.intro hown (And.intro (grown_below hgrow) hat));obtain⟨f0,f1,f2,f3,f4,ff⟩:=siCells ((((grown_below hgrow).block D (by simpa using hlt)).trans HH.out.2.1).trans (show _=some (svP t v (u+k) ps cl)from rfl));clear hown hgrow hat)
    |fail)
   go_end0;have hg2:g2=w.heap.size:=by
    rcases HF.out.2.2 with h|h
    ·cases h
    ·simpa using h
   have hwr:=HF.out.1;have hb4:=HF.out.2.1;rw[Nat.zero_add,List.nil_append]at hwr;refine⟨rfl,?_⟩;have hD4:=((hb4.block D (by simpa using hlt)).trans HH.out.2.1)
   have hD5:=(blkSet (i:=4) (blkSet (i:=3) hD4 (.slice (some ⟨g2,0,none⟩) nL cap)) (.int .i64 0))
   refine⟨⟨some g2,⟨⟨.slice (some ⟨g2,0,none⟩) nL cap,0,hD5.trans rfl,?_,.inl rfl⟩,by simp;omega⟩,.inr (.inr ⟨g2,rfl,by omega⟩)⟩,.of_turn ((((HH.out.2.2.drewN _).trans (.of_below hb4)).setCell 3 _).setCell 4 _)⟩;have h0:Held w4 (.slice (some ⟨g2,0,none⟩) nL cap) 0 (some g2) L:=⟨⟨L,by rw[HLn2.out];exact hwr,Nat.zero_le _,rfl,by rw[HLn2.out];omega⟩,rfl⟩
   refine h0.other (fun b hb'=>?_);cases hb';rw[Below.heap_setCell _ ⟨D,4,none⟩ _ _ (by show g2≠D;omega),Below.heap_setCell _ ⟨D,3,none⟩ _ _ (by show g2≠D;omega)]
 ·have hge':¬((held.drop k).length:Int)≤(u:Int)+k:=by omega
  generalize hL:held.drop k=L at*;have hL':=hide' hL;clear hL;go_enter Tryz.func126,Tryz.ntmps126;go_wp2;go_quiet ((go_at_call 74;exact Calls.quiet_of (HLn.out _)))
  go_wp2;go_end0;refine⟨rfl,?_⟩;refine⟨⟨hb,⟨⟨v,u+k,?_,?_,.inr (by show u+k<L.length;omega)⟩,hne⟩,.inl rfl⟩,.of_turn (HH.out.2.2.drewN _)⟩
  ·exact HH.out.2.1.trans rfl
  ·exact HH.out.1.other (fun _ _=>rfl)
theorem sTook {w1:World}{t:SvP}{hb:Option Nat}{v1:Value}{held all:List UInt8}{piece:ByteArray}(hD:w.heap[D]?=some (svP t v u ps cl))(hne:hb≠some D)(hbk:v.ownBlock=hb)(h2:u≤all.length)(h3:held=all.drop u)(hiv:u=0∨u<held.length)(hsz:all.length+piece.size≤140737488355328)(hown:w1.ownsRow 0 5 1 v1 (all.length+piece.size) (byC all++Lib.strCells piece))(hgrow:w.grownBy w1 v.ownBlock)(hat:v1.ownBlock=v.ownBlock∨v1.ownBlock=some w.heap.size):SInTo w (w1.setCell ⟨D,3,none⟩ v1) D hb t ⟨held++piece.data.toList,ps,cl⟩∧w1.heap[D]?=some (svP t v u ps cl):=by
 have hlt:=blkLt hD;have hnD:some D≠v.ownBlock:=by rw[hbk];exact fun e=>hne e.symm
 have hD1:=(hgrow.block D hlt hnD).trans hD;have hv1:v1.ownBlock≠some D:=by
  rcases hat with h|h
  ·rw[h,hbk];exact hne
  ·rw[h];simp;omega
 have hln:(all++piece.data.toList).length=all.length+piece.size:=by simp
 refine⟨⟨⟨v1.ownBlock,⟨⟨v1,u,(blkSet (i:=3) hD1 v1).trans rfl,?_,?_⟩,hv1⟩,?_⟩,?_⟩,hD1⟩
 ·have H1:Held w1 v1 u v1.ownBlock (held++piece.data.toList):=⟨⟨all++piece.data.toList,by rw[byC_app,hln,←strCells_byC];exact hown,by simp;omega,by rw[h3,List.drop_append_of_le_length h2],by rw[hln];exact hsz⟩,rfl⟩
  exact H1.other (fun k hk=>Below.heap_setCell w1 ⟨D,3,none⟩ _ k (by intro e;apply hv1;rw[hk,e]))
 ·rcases hiv with h|h
  ·exact .inl h
  ·right;show u<(held++piece.data.toList).length;simp;omega
 ·rcases hat with h|h
  ·exact .inl (by rw[h,hbk])
  ·exact .inr (.inr ⟨_,h,Nat.le_refl _⟩)
 ·refine⟨hgrow.os,hgrow.tape,hgrow.output,?_,fun k hk hn hh=>?_⟩
  ·have:=hgrow.size;simpa using this
  ·exact(Below.heap_setCell w1 ⟨D,3,none⟩ _ k hn).trans (hgrow.block k hk (by rw[hbk];exact hh))
theorem sTake_any (D:Nat)(t:SvP)(hb:Option Nat)(held:List UInt8)(piece:ByteArray)(w:World)(R:SInAt w D hb t ⟨held,false,false⟩)(hsm:2*held.length+piece.size≤140737488355328):Calls Tryz.prog 58 #[.pointer (some ⟨D,3,none⟩),.string piece] w fun e w'=>e= .returned (.tuple #[])∧SInTo w w' D hb t ⟨held++piece.data.toList,false,false⟩:=by
 obtain⟨⟨v,u,hD,H,hiv⟩,hne⟩:=R;simp only at hD H hiv hsm;obtain⟨d0,d1,d2,d3,d4,df⟩:=siCells hD;have hlt:=blkLt hD;obtain⟨⟨all,h1,h2,h3,h4⟩,hbk⟩:=H;have hl:held.length=all.length-u:=by rw[h3];simp
 have hsz:all.length+piece.size≤140737488355328:=by omega
 have hp1:piece.size≤140737488355328:=by omega
 have HT:=hide' (fun w1 v1 a b c=>sTook (w1:=w1) (v1:=v1) hD hne hbk h2 h3 hiv hsz a b c);obtain⟨va,vn,vc,hvf⟩:=own_form h1;subst hvf;have H1:=hide' h1;clear hD h1 h2 h3 h4 hiv hbk hl;go_enter Tryz.func58,Tryz.ntmps58;go_wp2_with (first
  |(at_builtin;refine wpList_append_str _ rfl _ _ rfl (.slice va vn vc) all.length (byC all) rfl H1.out piece rfl hsz ?_;intro v1 w1 a b c;obtain⟨ua,un,uc,huf⟩:=own_form a;subst huf;have HK:=hide' (HT.out w1 _ a b c);clear a b c;obtain⟨f0,f1,f2,f3,f4,ff⟩:=siCells HK.out.2)
  |fail)
 go_end0;exact⟨rfl,HK.out.1⟩
set_option maxHeartbeats 4000000
set_option maxRecDepth 100000
def fromR (l:List UInt8):Option Reply×Bool:=
 if l.length<7 then(none,true)
 else if byAt l 0≠2∨2<byAt l 1∨byAt l 2≠0∨40<numAt l 3 then(none,false)
 else if l.length<7+numAt l 3 then(none,true)
 else(some ⟨byAt l 1,numAt l 5,bytesOf l 7 (numAt l 3),7+numAt l 3⟩,true)
def fromV (r:Option Reply×Bool):Value:= .tuple #[(match r.1 with|none=>zReplyV|some r=>replyV r),.bool r.2]
theorem from_short (a:Option Addr)(n c:Nat)(l:List UInt8)(w:World)(hl:l.length=n)(hn:n<7):Calls Tryz.prog 133 #[.slice a n c] w fun e w'=>e= .returned (fromV (fromR l))∧Below w.heap.size w w':=by
 have hn':(n:Int)<7:=by omega
 have e:fromV (fromR l)= .tuple #[zReplyV,.bool true]:=by unfold fromR;rw[if_pos (by omega)];rfl
 have HB:Hid (∀x,Below w.heap.size w (w.alloc x)):=fun x=>(Below.refl _ _).alloc (Nat.le_refl _) x
 rw[e];unfold zReplyV;go_enter Tryz.func133,Tryz.ntmps133;go_wp2;refine bodyPost_ret (v:= .tuple #[.agg #[.int .i64 0,.int .u16 0,.string ⟨#[]⟩,.int .i64 0],.bool true]) (by simp[results,Tryz.results133,go_sem]) rfl ⟨rfl,HB.out _⟩
theorem from_long (g o n c:Nat)(l:List UInt8)(w:World)(hB:BytesIn w g o n c l)(h7:7≤n):Calls Tryz.prog 133 #[.slice (some ⟨g,o,none⟩) n c] w fun e w'=>e= .returned (fromV (fromR l))∧Below w.heap.size w w':=by
 have h7':¬(n:Int)<7:=by omega
 have hlen:=hB.len;have hlt:=hB.lt;have hcap:=hB.cap;have hsm:=hB.small;have c0:=hB.by_ 0 (by omega);have c1:=hB.by_ 1 (by omega);have c2:=hB.by_ 2 (by omega);rw[Nat.add_zero]at c0;have b0:=byAt_lt l 0;have b1:=byAt_lt l 1;have b2:=byAt_lt l 2;have hlt1:g<w.heap.size+1:=by omega
 have hgn:¬g=w.heap.size:=by omega
 have HB:Hid (∀x,Below w.heap.size w (w.alloc x)):=fun x=>(Below.refl _ _).alloc (Nat.le_refl _) x
 have HS4:Hid (∀(W:World) (x y z u:Value),Below w.heap.size w W→Below w.heap.size w ((((W.setCell ⟨w.heap.size,0,none⟩ x).setCell ⟨w.heap.size,1,none⟩ y).setCell ⟨w.heap.size,2,none⟩ z).setCell ⟨w.heap.size,3,none⟩ u)):=fun W x y z u h=>(((h.setCell (p:=⟨w.heap.size,0,none⟩) (Nat.le_refl _) x).setCell (p:=⟨w.heap.size,1,none⟩) (Nat.le_refl _) y).setCell (p:=⟨w.heap.size,2,none⟩) (Nat.le_refl _) z).setCell (p:=⟨w.heap.size,3,none⟩) (Nat.le_refl _) u
 have HN:Hid (∀W:World,Below w.heap.size w W→∀c',2≤c'→Calls Tryz.prog 163 #[.slice (some ⟨g,o+3,none⟩) 2 c'] W fun e w'=>e= .returned (.int .i64 (numAt l 3))∧∃q,w'=W.drewN q):=fun W hW c' hc'=>
  num2_any g (o+3) c' _ _ W (byAt_lt l 3) (byAt_lt l 4) hc' (hB.later hW).lt ((hB.later hW).by_ 3 (by omega)) ((hB.later hW).by_ 4 (by omega))
 have HM:Hid (∀W:World,Below w.heap.size w W→∀c',2≤c'→Calls Tryz.prog 163 #[.slice (some ⟨g,o+5,none⟩) 2 c'] W fun e w'=>e= .returned (.int .i64 (numAt l 5))∧∃q,w'=W.drewN q):=fun W hW c' hc'=>
  num2_any g (o+5) c' _ _ W (byAt_lt l 5) (byAt_lt l 6) hc' (hB.later hW).lt ((hB.later hW).by_ 5 (by omega)) ((hB.later hW).by_ 6 (by omega))
 have hN3:numAt l 3<65536:=by have:=byAt_lt l 3;have:=byAt_lt l (3+1);unfold numAt;omega
 have hN5:numAt l 5<65536:=by have:=byAt_lt l 5;have:=byAt_lt l (5+1);unfold numAt;omega
 have HCV:Hid (numAt l 3+7≤n→∀W,Below w.heap.size w W→∀cc,(convert 80 9 (.slice (some ⟨g,o+7,none⟩) (numAt l 3) cc)).run Tryz.prog W= .ok (.string (bytesOf l 7 (numAt l 3))) W):=fun hh W hW cc=>conv_by W g o n c 7 (numAt l 3) cc l (hB.later hW) (by omega)
 have HC0:Hid (∀W,Below w.heap.size w W→∀cc,(convert 80 9 (.slice (some ⟨g,o,none⟩) 0 cc)).run Tryz.prog W= .ok (.string ⟨#[]⟩) W):=fun W hW cc=>by
  have:=conv_by W g o n c 0 0 cc l (hB.later hW) (by omega);rw[Nat.add_zero]at this;rw[this];unfold bytesOf;simp
 have HV0:Hid (numAt l 3=0→bytesOf l 7 (numAt l 3)=⟨#[]⟩):=fun h=>by rw[h];unfold bytesOf;simp
 have wr16:IntKind.u16.wrap ((numAt l 5:Nat):Int)=((numAt l 5:Nat):Int):=by rw[IntKind.wrap_u16];omega
 generalize hfr:fromV (fromR l)=R;unfold fromR at hfr;rw[if_neg (by omega)]at hfr;generalize hx0:byAt l 0=x0 at*;generalize hx1:byAt l 1=x1 at*;generalize hx2:byAt l 2=x2 at*;generalize hs3:numAt l 3=s3 at*;generalize hi5:numAt l 5=i5 at*;generalize bytesOf l 7 s3=vB at*;clear hB hx0 hx1 hx2 hs3 hi5;by_cases hbad:x0≠2∨2<x1∨x2≠0∨40<s3
 ·rw[if_pos hbad]at hfr;subst hfr;unfold fromV zReplyV;have hc:(¬(x0:Int)=2)∨((x0:Int)=2∧(2:Int)<x1)∨((x0:Int)=2∧¬(2:Int)<x1∧¬(x2:Int)=0)∨((x0:Int)=2∧¬(2:Int)<x1∧(x2:Int)=0∧(47:Int)<7+(s3:Int)):=by omega
  clear hbad;rcases hc with h1|⟨h1,h2⟩|⟨h1,h2,h3⟩|⟨h1,h2,h3,h4⟩
  all_goals
   go_enter Tryz.func133,Tryz.ntmps133
   go_wp2_with fail
   go_at_call 163
   refine(HN.out _ (HB.out _) _ (by omega)).mono ?_
   rintro e w1 ⟨rfl,q1,hw1⟩
   subst hw1
   go_wp2
   refine bodyPost_ret (v:= .tuple #[.agg #[.int .i64 0,.int .u16 0,.string ⟨#[]⟩,.int .i64 0],.bool false]) (by simp[results,Tryz.results133,go_sem]) rfl ⟨rfl,HS4.out _ _ _ _ _ (below_drewN (HB.out _) _)⟩
 ·rw[if_neg hbad]at hfr;obtain⟨rfl,h1,rfl,h4⟩:x0=2∧x1≤2∧x2=0∧s3≤40:=by omega
  have h1':¬(2:Int)<(x1:Int):=by omega
  have h4':¬(47:Int)<7+(s3:Int):=by omega
  by_cases hw:n<7+s3
  ·rw[if_pos (by omega)]at hfr;subst hfr;unfold fromV zReplyV;have hw':(n:Int)<7+(s3:Int):=by omega
   go_enter Tryz.func133,Tryz.ntmps133;go_wp2_with fail
   go_at_call 163;refine(HN.out _ (HB.out _) _ (by omega)).mono ?_;rintro e w1 ⟨rfl,q1,hw1⟩;subst hw1;go_wp2;refine bodyPost_ret (v:= .tuple #[.agg #[.int .i64 0,.int .u16 0,.string ⟨#[]⟩,.int .i64 0],.bool true]) (by simp[results,Tryz.results133,go_sem]) rfl ⟨rfl,HS4.out _ _ _ _ _ (below_drewN (HB.out _) _)⟩
  ·rw[if_neg (by omega)]at hfr;subst hfr;unfold fromV replyV;have hw':¬(n:Int)<7+(s3:Int):=by omega
   have HC2:=hide' (HCV.out (by omega));obtain⟨en,hen⟩:∃en,en=7+s3:=⟨_,rfl⟩
   have z1:(7:Int)+(s3:Int)=(en:Int):=by omega
   have HZ:=hide' (And.intro hen z1);have w1:IntKind.i64.wrap (x1:Int)=x1:=wrap_small _ (by omega) (by omega);have i2:(7:Int)≤(en:Int):=by omega
   have i3:(en:Int)≤(c:Int):=by omega
   have i4:(7:Int)≤(c:Int):=by omega
   have i5':(1:Int)<(n:Int):=by omega
   have e7:en-7=s3:=by omega
   clear hen z1 hbad;go_enter Tryz.func133,Tryz.ntmps133;go_wp2_with fail
   go_at_call 163;refine(HN.out _ (HB.out _) _ (by omega)).mono ?_;rintro e w1' ⟨rfl,q1,hw1⟩;subst hw1;go_wp2_with fail
   go_at_call 163;refine(HM.out _ (below_drewN (HB.out _) _) _ (by omega)).mono ?_;rintro e w2 ⟨rfl,q2,hw2⟩;subst hw2;go_wp2_with fail
   rw[HZ.out.2];by_cases hc7:c=7
   ·have hs0:s3=0:=by omega
    have hen7:en=7:=by omega
    have hv0:=HV0.out hs0;subst hen7;subst hc7;subst hs0;subst hv0;clear HN HM HCV HC2 HV0;go_region_held3 (fun w'=>w'.cell? ⟨g,o+1,none⟩=some (.int .u8 x1)∧(convert 80 9 (.slice (some ⟨g,o,none⟩) 0 0)).run Tryz.prog w'= .ok (.string ⟨#[]⟩) w')
     ((refine⟨?_,?_⟩;(first|(go_keep)|(go_simp));(exact HC0.out _ (by repeat(first|with_reducible exact Below.refl _ _|with_reducible refine Below.drew ?_|with_reducible refine below_drewN ?_ _|with_reducible refine Below.alloc ?_ (by simp;try omega) _|with_reducible refine Below.setCell ?_ (by simp;try omega) _)) _)))
     (fail)
    all_goals go_wp2_with fail
    all_goals
     refine bodyPost_ret (v:= .tuple #[.agg #[.int .i64 (x1:Int),.int .u16 (i5:Int),.string ⟨#[]⟩,.int .i64 7],.bool true]) (by simp[results,Tryz.results133,go_sem]) rfl ⟨by simp,HS4.out _ _ _ _ _ (below_drewN (HB.out _) _)⟩
   ·have HCW:Hid (∀W,Below w.heap.size w W→∀cc,(convert 80 9 (.slice (some ⟨g,o+7,none⟩) (en-7) cc)).run Tryz.prog W= .ok (.string vB) W):=fun W hW cc=>by rw[e7];exact HC2.out W hW cc
    clear HN HM HCV HC2 HV0 HC0 e7;go_region_held3 (fun w'=>w'.cell? ⟨g,o+1,none⟩=some (.int .u8 x1)∧(convert 80 9 (.slice (some ⟨g,o+7,none⟩) (en-7) (c-7))).run Tryz.prog w'= .ok (.string vB) w')
     ((refine⟨?_,?_⟩;(first|(go_keep)|(go_simp));(exact HCW.out _ (by repeat(first|with_reducible exact Below.refl _ _|with_reducible refine Below.drew ?_|with_reducible refine below_drewN ?_ _|with_reducible refine Below.alloc ?_ (by simp;try omega) _|with_reducible refine Below.setCell ?_ (by simp;try omega) _)) _)))
     (fail)
    all_goals go_wp2_with fail
    all_goals
     refine bodyPost_ret (v:= .tuple #[.agg #[.int .i64 (x1:Int),.int .u16 (i5:Int),.string vB,.int .i64 (en:Int)],.bool true]) (by simp[results,Tryz.results133,go_sem]) rfl ⟨?_,HS4.out _ _ _ _ _ (below_drewN (HB.out _) _)⟩
     rw[HZ.out.1]
variable {w:World}{m:Nat}{l:List (Nat×Value)}
def MapS (w:World)(m:Nat)(l:List (Nat×Value)):Prop:=∃es clock,w.heap[m]?=some (.map es clock)∧es.toList.map (fun e=>(e.key,e.val))=l.map (fun p=>(Value.int .u16 (p.1:Int),p.2))∧(∀x∈es.toList,x.born<clock)∧(es.toList.map (·.born)).Nodup
theorem MapS.at_ (h:MapS w m l):MapAt w m l:=by
 obtain⟨es,clock,h1,h2,_⟩:=h;exact⟨es,clock,h1,h2⟩
theorem MapS.other {w':World}(h:MapS w m l)(k:w'.heap[m]?=w.heap[m]?):MapS w' m l:=by
 obtain⟨es,clock,h1,h2⟩:=h;exact⟨es,clock,k.trans h1,h2⟩
theorem MapS.lt (h:MapS w m l):m<w.heap.size:=h.at_.lt
theorem find_idx (k:Nat):∀(es:List MapEntry) (l:List (Nat×Value)) (i:Nat),es.map (fun e=>(e.key,e.val))=l.map (fun p=>(Value.int .u16 (p.1:Int),p.2))→(∃p∈l,p.1=k)→∃j p,l[j]?=some p∧p.1=k∧Instr.findNow (.int .u16) (.int .u16 (k:Int)) es i=some (some (i+j,p.2)):=by
 intro es;induction es with
 |nil=>intro l i h hk;cases l with
  |nil=>obtain⟨p,hp,_⟩:=hk;cases hp
  |cons p l=>simp at h
 |cons e es ih=>
  intro l i h hk;cases l with
  |nil=>simp at h
  |cons p l=>
   simp only[List.map_cons,List.cons.injEq]at h;obtain⟨h1,h2⟩:=h;have he:e.key= .int .u16 (p.1:Int):=congrArg Prod.fst h1;have hv:e.val=p.2:=congrArg Prod.snd h1;by_cases hp:p.1=k
   ·refine⟨0,p,rfl,hp,?_⟩;have hs:Instr.sameNow (.int .u16) (.int .u16 (k:Int)) e.key=some true:=by
     rw[he,hp];simp[Instr.sameNow]
    unfold Instr.findNow;rw[hs,hv];rfl
   ·have hs:Instr.sameNow (.int .u16) (.int .u16 (k:Int)) e.key=some false:=by
     rw[he];have:((k:Int)==(p.1:Int))=false:=by simp;omega
     simp[Instr.sameNow,this]
    obtain⟨q,hq,hqk⟩:=hk;have hql:q∈l:=by
     rcases List.mem_cons.1 hq with rfl|h
     ·exact absurd hqk hp
     ·exact h
    obtain⟨j,p',hp',hpk',hf⟩:=ih l (i+1) h2 ⟨q,hql,hqk⟩;refine⟨j+1,p',by simpa using hp',hpk',?_⟩;unfold Instr.findNow;rw[hs];rw[show i+(j+1)=i+1+j by omega];exact hf
theorem erase_map {α β:Type}(f:α→β):∀(l:List α) (j:Nat),(l.eraseIdx j).map f=(l.map f).eraseIdx j:=by
 intro l;induction l with
 |nil=>intro j;cases j<;>rfl
 |cons a l ih=>
  intro j;cases j with
  |zero=>rfl
  |succ j=>simp[ih]
theorem MapS.update (w:World)(m k:Nat)(v:Value)(l:List (Nat×Value))(h:MapS w m l)(hk:∀p∈l,p.1≠k):∃w',(Instr.mapUpdate 141 (.map (some m)) (.int .u16 (k:Int)) v).run Tryz.prog w= .ok () w'∧MapS w' m (l++[(k,v)])∧Chg [m] w w'∧w'.heap.size=w.heap.size:=by
 obtain⟨es,clock,h1,h2,h3,h4⟩:=h;have hf:=find_none k es.toList l 0 h2 hk;refine⟨{w with heap:=w.heap.setIfInBounds m (.map (es.push {key:= .int .u16 (k:Int),val:=v,born:=clock}) (clock+1))},?_,⟨es.push {key:= .int .u16 (k:Int),val:=v,born:=clock},clock+1,?_,?_,?_,?_⟩,?_,by simp⟩
 ·simp[Instr.mapUpdate,run_underlying Tryz.underlying141,MapKept.run_getObj_map h1,MapKept.run_checkKey Tryz.underlying140 (show MapKept.IsKey (.int .u16) (.int .u16 (k:Int))from rfl),MapKept.run_findKey Tryz.underlying140 hf,MapKept.run_setObj_map _ h1,Result.andThen]
 ·simp[blkLt h1]
 ·simp[h2]
 ·intro x hx;simp at hx;rcases hx with hx|hx
  ·have:=h3 x (by simpa using hx);omega
  ·rw[hx];exact Nat.lt_succ_self _
 ·rw[Array.toList_push,List.map_append];refine List.nodup_append.2 ⟨h4,by simp,fun a ha b hb e=>?_⟩;simp at hb;obtain⟨x,hx,e2⟩:=List.mem_map.1 ha;have:=h3 x hx;omega
 ·exact⟨rfl,rfl,rfl,by simp,fun b hb hn=>by simp only;rw[Array.getElem?_setIfInBounds_ne (fun e=>hn (by simp[e]))]⟩
theorem MapS.delete (w:World)(m k:Nat)(ty:TypeId)(l:List (Nat×Value))(h:MapS w m l)(hk:∃p∈l,p.1=k):∃w' v' j p,l[j]?=some p∧p.1=k∧(Builtin.delete_ #[141,140] ty #[.map (some m),.int .u16 (k:Int)]).run Tryz.prog w= .ok v' w'∧MapS w' m (l.eraseIdx j)∧Chg [m] w w'∧w'.heap.size=w.heap.size:=by
 obtain⟨es,clock,h1,h2,h3,h4⟩:=h;obtain⟨j,p,hj,hp,hf⟩:=find_idx k es.toList l 0 h2 hk;rw[Nat.zero_add]at hf;have hlen:es.size=l.length:=by have:=congrArg List.length h2;simpa using this
 have hjl:j<es.size:=by rw[hlen];exact(List.getElem?_eq_some_iff.1 hj).1
 have he:(es.eraseIdxIfInBounds j).toList=es.toList.eraseIdx j:=by
  unfold Array.eraseIdxIfInBounds;rw[dif_pos hjl];simp
 refine⟨{w with heap:=w.heap.setIfInBounds m (.map (es.eraseIdxIfInBounds j) clock)},.tuple #[],j,p,hj,hp,?_,⟨es.eraseIdxIfInBounds j,clock,?_,?_,?_,?_⟩,?_,by simp⟩
 ·simp[Builtin.delete_,run_underlying Tryz.underlying141,MapKept.run_getObj_map h1,MapKept.run_checkKey Tryz.underlying140 (show MapKept.IsKey (.int .u16) (.int .u16 (k:Int))from rfl),MapKept.run_findKey Tryz.underlying140 hf,MapKept.run_setObj_map _ h1,Result.andThen]
 ·simp[blkLt h1]
 ·rw[he,erase_map,h2,erase_map]
 ·intro x hx;rw[he]at hx;exact h3 x ((List.eraseIdx_sublist _ _).subset hx)
 ·rw[he,erase_map];exact List.Sublist.nodup (List.eraseIdx_sublist _ _) h4
 ·exact⟨rfl,rfl,rfl,by simp,fun b hb hn=>by simp only;rw[Array.getElem?_setIfInBounds_ne (fun e=>hn (by simp[e]))]⟩
theorem MapS.clear (w:World)(m:Nat)(ty:TypeId)(l:List (Nat×Value))(h:MapS w m l):∃w' v',(Builtin.clear_ #[141] ty #[.map (some m)]).run Tryz.prog w= .ok v' w'∧MapS w' m []∧Chg [m] w w'∧w'.heap.size=w.heap.size:=by
 obtain⟨es,clock,h1,h2,h3,h4⟩:=h;refine⟨{w with heap:=w.heap.setIfInBounds m (.map #[] clock)},.tuple #[],?_,⟨#[],clock,?_,rfl,by simp,by simp⟩,?_,by simp⟩
 ·simp[Builtin.clear_,run_underlying Tryz.underlying141,MapKept.run_getObj_map h1,MapKept.run_setObj_map _ h1,Result.andThen]
 ·simp[blkLt h1]
 ·exact⟨rfl,rfl,rfl,by simp,fun b hb hn=>by simp only;rw[Array.getElem?_setIfInBounds_ne (fun e=>hn (by simp[e]))]⟩
set_option maxHeartbeats 2000000
set_option maxRecDepth 100000
theorem from_any (a:Option Addr)(n c:Nat)(l:List UInt8)(w:World)(h:BytesA w a n c l):Calls Tryz.prog 133 #[.slice a n c] w fun e w'=>e= .returned (fromV (fromR l))∧Below w.heap.size w w':=by
 by_cases h7:n<7
 ·exact from_short a n c l w h.len h7
 ·obtain⟨g,o,rfl,hB⟩:=h.in_ (by omega);exact from_long g o n c l w hB (by omega)
theorem fromR_some {l:List UInt8}{r:Reply}{b:Bool}(h:fromR l=(some r,b)):b=true∧(r.st=0∨r.st=1∨r.st=2)∧r.id<65536∧r.val.size≤40∧7≤r.used∧r.used≤l.length:=by
 unfold fromR at h;split at h
 ·simp at h
 ·split at h
  ·simp at h
  ·split at h
   ·simp at h
   ·simp at h;obtain⟨rfl,rfl⟩:=h;rename_i h1 h2 h3;have a5:=byAt_lt l 5;have a6:=byAt_lt l (5+1);refine⟨rfl,by simp only;omega,by show numAt l 5<65536;unfold numAt;omega,?_,by simp only;omega,by simp only;omega⟩;show((l.drop 7).take (numAt l 3)).toArray.size≤40;simp;omega
theorem siAll {w:World}{D u:Nat}{t:SvP}{v:Value}{ps cl:Bool}(h:w.heap[D]?=some (svP t v u ps cl)):w.cell? ⟨D,2,none⟩=some (.map (some t.m)):=blkCell h 2
theorem hear_none (S:Nat)(hb:Option Nat)(t:SvP)(held:List UInt8)(ok:Bool)(w:World)(R:SInAt w S hb t ⟨held,false,false⟩)(hf:fromR held=(none,ok)):Calls Tryz.prog 94 #[.pointer (some ⟨S,0,none⟩)] w fun e w'=>e= .returned (.tuple #[.pointer none,.bool ok])∧Below w.heap.size w w':=by
 obtain⟨⟨v,u,hD,H,_⟩,hne⟩:=R;obtain⟨d0,d1,d2,d3,d4,df⟩:=siCells hD;have hlt:=blkLt hD;have HW:=hide' (sWaiting_any S u v hb held w H d1 d2);have HFr:=hide' (fun(a:Option Addr) (n c:Nat) (W:World) (h:BytesA W a n c held)=>from_any a n c held W h);rw[hf]at HFr;clear hD H;unfold fromV zReplyV at HFr;go_enter Tryz.func94,Tryz.ntmps94;go_wp2_with fail
 go_at_call 125;refine HW.out.mono ?_;rintro e w1 ⟨⟨a,c,rfl,hBA,_,_⟩,q,hw1⟩;have hF:=HFr.out a _ c w1 (by rw[hw1];exact⟨hBA.len,hBA.cap,hBA.small,hBA.ag,hBA.by_⟩);have HF:=hide' hF;have HB1:Hid (Below w.heap.size w w1):=by rw[hw1];exact below_drewN (Below.refl _ _) q
 clear hBA hF hw1;go_wp2_with fail
 go_at_call 133;refine HF.out.mono ?_;rintro e w2 ⟨rfl,hb2⟩;have HB2:=hide' (HB1.out.trans (hb2.mono HB1.out.size));clear hb2;cases ok with
 |true=>
  go_wp2;go_ret2;exact⟨rfl,HB2.out.alloc HB2.out.size _⟩
 |false=>
  go_wp2;go_ret2;exact⟨rfl,HB2.out.alloc HB2.out.size _⟩
theorem hear_unknown (S:Nat)(hb:Option Nat)(t:SvP)(held:List UInt8)(r:Reply)(l:List (Nat×Value))(w:World)(R:SInAt w S hb t ⟨held,false,false⟩)(hf:fromR held=(some r,true))(hm:MapS w t.m l)(hk:∀p∈l,p.1≠r.id):Calls Tryz.prog 94 #[.pointer (some ⟨S,0,none⟩)] w fun e w'=>e= .returned (.tuple #[.pointer none,.bool false])∧Below w.heap.size w w':=by
 obtain⟨⟨v,u,hD,H,_⟩,hne⟩:=R;obtain⟨d0,d1,d2,d3,d4,df⟩:=siCells hD;have dm:=siAll hD;have hlt:=blkLt hD;have HW:=hide' (sWaiting_any S u v hb held w H d1 d2);have HFr:=hide' (fun(a:Option Addr) (n c:Nat) (W:World) (h:BytesA W a n c held)=>from_any a n c held W h);rw[hf]at HFr;obtain⟨_,hst,hid,hvs,hu7,hul⟩:=fromR_some hf;have hused:¬(r.used:Int)=0:=by omega
 have HM:=hide' hm;have HLk:Hid (∀W,Below w.heap.size w W→(Instr.lookup 141 (.map (some t.m)) (.int .u16 (r.id:Int)) true).run Tryz.prog W= .ok (.tuple #[zPart,.bool false]) W):=fun W hW=>run_lookup_no W t.m r.id l (hm.at_.other (hW.block t.m hm.lt)) hk
 clear hD H hk hm;obtain⟨st,rid,rv,used⟩:=r;simp only at hused HLk hst hid;unfold fromV replyV at HFr;simp only at HFr;unfold zPart at HLk;go_enter Tryz.func94,Tryz.ntmps94;go_wp2_with fail
 go_at_call 125;refine HW.out.mono ?_;rintro e w1 ⟨⟨a,c,rfl,hBA,_,_⟩,q,hw1⟩;have hF:=HFr.out a _ c w1 (by rw[hw1];exact⟨hBA.len,hBA.cap,hBA.small,hBA.ag,hBA.by_⟩);have HF:=hide' hF;have HB1:Hid (Below w.heap.size w w1):=by rw[hw1];exact below_drewN (Below.refl _ _) q
 clear hBA hF hw1;go_wp2_with fail
 go_at_call 133;refine HF.out.mono ?_;rintro e w2 ⟨rfl,hb2⟩;have HB2:=hide' (HB1.out.trans (hb2.mono HB1.out.size));have dm2:=(HB2.out.cell (p:=⟨S,2,none⟩) hlt).trans dm;have hlt2:S<w2.heap.size:=Nat.lt_of_lt_of_le hlt HB2.out.size;have hSn:¬S=w2.heap.size:=by omega
 clear hb2 d0 d1 d2 d3 d4 df dm;go_wp2_with fail
 have hb3:Below w.heap.size w (w2.alloc (.cells #[.int .i64 (st:Int),.int .u16 (rid:Int),.string rv,.int .i64 (used:Int)] 224)):=HB2.out.alloc HB2.out.size _;have hN:=blkNew w2 (.cells #[.int .i64 (st:Int),.int .u16 (rid:Int),.string rv,.int .i64 (used:Int)] 224);have dm3:=(hb3.cell (p:=⟨S,2,none⟩) hlt).trans ((HB2.out.cell (p:=⟨S,2,none⟩) hlt).symm.trans dm2);generalize w2.alloc (.cells #[.int .i64 (st:Int),.int .u16 (rid:Int),.string rv,.int .i64 (used:Int)] 224)=w3 at*;have r1:=blkCell hN 1;simp at r1;have hlN:=blkLt hN;have hlt3:S<w3.heap.size:=Nat.lt_of_lt_of_le hlt hb3.size;have HB3:=hide' hb3;have hsz3:=hb3.size;clear hb3 hN dm2;go_region_held3 (fun W'=>W'.cell? ⟨S,2,none⟩=some (.map (some t.m))∧W'.cell? ⟨w2.heap.size,1,none⟩=some (.int .u16 (rid:Int))∧(Instr.lookup 141 (.map (some t.m)) (.int .u16 (rid:Int)) true).run Tryz.prog W'= .ok (.tuple #[.agg #[.pointer none,.pointer none,.int .i64 0],.bool false]) W')
  ((refine⟨?_,?_,?_⟩;(first|(go_keep)|(go_simp));(first|(go_keep)|(go_simp));(exact HLk.out _ (by repeat(first|with_reducible exact HB3.out|with_reducible exact Below.refl _ _|with_reducible refine Below.drew ?_|with_reducible refine below_drewN ?_ _|with_reducible refine Below.alloc ?_ (by first|omega|(simp;omega)) _|with_reducible refine Below.setCell ?_ (by first|omega|(simp;omega)) _)))))
  (fail)
 all_goals go_wp2
 all_goals go_ret2
 all_goals exact⟨rfl,(HB3.out.alloc HB3.out.size _).drew⟩
set_option maxHeartbeats 2000000
set_option maxRecDepth 100000
variable {o:Oper}{a:Act}{K:Act→World→Prop}{Q:Exit→Act→World→Prop}
theorem wp_delete (w:World){K:Act→World→Prop}{Q:Exit→Act→World→Prop}(s x:Operand)(ho:o.op= .call {callee:= .builtin .delete,args:=#[s,x],argTypes:=#[141,140]})(m k:Nat)(l:List (Nat×Value))(hs:a.eval s= .map (some m))(hx:a.eval x= .int .u16 (k:Int))(hm:MapS w m l)(hk:∃p∈l,p.1=k)(h:∀w' j p,l[j]?=some p→p.1=k→MapS w' m (l.eraseIdx j)→Chg [m] w w'→w'.heap.size=w.heap.size→K (a.put o.dst (.tuple #[])) w'):Oper.wp Tryz.prog o a w K Q:=by
 obtain⟨w',v',j,p,h1,h2,hr,h3,h4,h5⟩:=MapS.delete w m k o.type l hm hk;have hv:v'= .tuple #[]:=by
  have hr2:=hr;obtain⟨es,clock,e1,e2,e3,e4⟩:=hm;obtain⟨j2,p2,hj2,hp2,hf⟩:=find_idx k es.toList l 0 e2 hk;simp[Builtin.delete_,run_underlying Tryz.underlying141,MapKept.run_getObj_map e1,MapKept.run_checkKey Tryz.underlying140 (show MapKept.IsKey (.int .u16) (.int .u16 (k:Int))from rfl),MapKept.run_findKey Tryz.underlying140 hf,MapKept.run_setObj_map _ e1,Result.andThen]at hr2;exact hr2.1.symm
 subst hv;unfold Oper.wp execOp;simp only[ho,resolve,invoke,builtin,Sem.run_bind,Sem.run_pure,Result.andThen_ok,List.map_toArray,List.map_cons,List.map_nil,hs,hx,hr]
 exact h w' j p h1 h2 h3 h4 h5
theorem step_delete (w:World){ops:Array Oper}{K:Act→World→Prop}{Q:Exit→Act→World→Prop}{E:Prop}(hgd:o.guard=none)(s x:Operand)(ho:o.op= .call {callee:= .builtin .delete,args:=#[s,x],argTypes:=#[141,140]})(m k:Nat)(l:List (Nat×Value))(hs:a.eval s= .map (some m))(hx:a.eval x= .int .u16 (k:Int))(hm:MapS w m l)(hk:∃p∈l,p.1=k)(h:∀w' j p,l[j]?=some p→p.1=k→MapS w' m (l.eraseIdx j)→Chg [m] w w'→w'.heap.size=w.heap.size→K (a.put o.dst (.tuple #[])) w'):if Region.wanted o (yielded ops a.tmps)=true then Oper.wp Tryz.prog o a w K Q else E:=by
 have hw:Region.wanted o (yielded ops a.tmps)=true:=by simp[Region.wanted,hgd]
 rw[if_pos hw];exact wp_delete w s x ho m k l hs hx hm hk h
theorem hear_not (S C q i:Nat)(hb:Option Nat)(t:SvP)(held:List UInt8)(r:Reply)(l:List (Nat×Value))(k:Int)(kv:Value)(val wd:ByteArray)(ft:Bool)(cid n:Int)(fa re:Bool)(yv vv:Value)(w:World)(R:SInAt w S hb t ⟨held,false,false⟩)(hf:fromR held=(some r,true))(hm:MapS w t.m l)(hk:∃p∈l,p.1=r.id)(hu:∀p∈l,p.1=r.id→p.2=partV C q i)(hq:w.heap[q]?=some (quO k kv val wd ft cid n fa re yv vv))(hmay:mayB k r=false):Calls Tryz.prog 94 #[.pointer (some ⟨S,0,none⟩)] w fun e w'=>e= .returned (.tuple #[.pointer none,.bool false])∧Below w.heap.size w w':=by
 obtain⟨⟨v,u,hD,H,_⟩,hne⟩:=R;obtain⟨d0,d1,d2,d3,d4,df⟩:=siCells hD;have dm:=siAll hD;have hlt:=blkLt hD;have HW:=hide' (sWaiting_any S u v hb held w H d1 d2);have HFr:=hide' (fun(a:Option Addr) (n c:Nat) (W:World) (h:BytesA W a n c held)=>from_any a n c held W h);rw[hf]at HFr;obtain⟨_,hst,hid,hvs,hu7,hul⟩:=fromR_some hf;have hused:¬(r.used:Int)=0:=by omega
 have HLk:Hid (∀W,Below w.heap.size w W→(Instr.lookup 141 (.map (some t.m)) (.int .u16 (r.id:Int)) true).run Tryz.prog W= .ok (.tuple #[partV C q i,.bool true]) W):=fun W hW=>by
  obtain⟨p,hp,hpk,hr⟩:=run_lookup_yes W t.m r.id l (hm.at_.other (hW.block t.m hm.lt)) hk;rw[hu p hp hpk]at hr;exact hr
 have HMy:Hid (∀W,Below w.heap.size w W→Calls Tryz.prog 134 #[partV C q i,replyV r] W fun e w'=>e= .returned (.bool false)∧Below W.heap.size W w'):=fun W hW=>by
  have:=mayBe_any C q i k kv val wd ft cid n fa re yv vv r W ((hW.block q (blkLt hq)).trans hq);rw[hmay]at this;exact this
 clear hD H hk hm hu hq hmay;obtain⟨st,rid,rv,used⟩:=r;simp only at hused HLk hst hid;unfold fromV replyV at HFr;unfold replyV at HMy;unfold partV at HLk HMy;simp only at HFr HMy;go_enter Tryz.func94,Tryz.ntmps94;go_wp2_with fail
 go_at_call 125;refine HW.out.mono ?_;rintro e w1 ⟨⟨a,c,rfl,hBA,_,_⟩,q1,hw1⟩;have hF:=HFr.out a _ c w1 (by rw[hw1];exact⟨hBA.len,hBA.cap,hBA.small,hBA.ag,hBA.by_⟩);have HF:=hide' hF;have HB1:Hid (Below w.heap.size w w1):=by rw[hw1];exact below_drewN (Below.refl _ _) q1
 clear hBA hF hw1;go_wp2_with fail
 go_at_call 133;refine HF.out.mono ?_;rintro e w2 ⟨rfl,hb2⟩;have HB2:=hide' (HB1.out.trans (hb2.mono HB1.out.size));have dm2:=(HB2.out.cell (p:=⟨S,2,none⟩) hlt).trans dm;have hlt2:S<w2.heap.size:=Nat.lt_of_lt_of_le hlt HB2.out.size;have hSn:¬S=w2.heap.size:=by omega
 clear hb2 d0 d1 d2 d3 d4 df dm;go_wp2_with fail
 have hb3:Below w.heap.size w (w2.alloc (.cells #[.int .i64 (st:Int),.int .u16 (rid:Int),.string rv,.int .i64 (used:Int)] 224)):=HB2.out.alloc HB2.out.size _;have hN:=blkNew w2 (.cells #[.int .i64 (st:Int),.int .u16 (rid:Int),.string rv,.int .i64 (used:Int)] 224);have dm3:=(hb3.cell (p:=⟨S,2,none⟩) hlt).trans ((HB2.out.cell (p:=⟨S,2,none⟩) hlt).symm.trans dm2);generalize w2.alloc (.cells #[.int .i64 (st:Int),.int .u16 (rid:Int),.string rv,.int .i64 (used:Int)] 224)=w3 at*;have r0:=blkCell hN 0;have r1:=blkCell hN 1;have r2:=blkCell hN 2;have r3:=blkCell hN 3;simp at r0 r1 r2 r3;have hlN:=blkLt hN;have hlt3:S<w3.heap.size:=Nat.lt_of_lt_of_le hlt hb3.size;have HB3:=hide' hb3;have hsz3:=hb3.size
 have hNn:¬w2.heap.size=w3.heap.size:=by omega
 clear hb3 hN dm2;go_region_held3 (fun W'=>W'.cell? ⟨S,2,none⟩=some (.map (some t.m))∧W'.cell? ⟨w2.heap.size,1,none⟩=some (.int .u16 (rid:Int))∧(Instr.lookup 141 (.map (some t.m)) (.int .u16 (rid:Int)) true).run Tryz.prog W'= .ok (.tuple #[.agg #[.pointer (some ⟨C,0,none⟩),.pointer (some ⟨q,0,none⟩),.int .i64 (i:Int)],.bool true]) W')
  ((refine⟨?_,?_,?_⟩;(first|(go_keep)|(go_simp));(first|(go_keep)|(go_simp));(exact HLk.out _ (by repeat(first|with_reducible exact HB3.out|with_reducible exact Below.refl _ _|with_reducible refine Below.drew ?_|with_reducible refine below_drewN ?_ _|with_reducible refine Below.alloc ?_ (by first|omega|(simp;omega)) _|with_reducible refine Below.setCell ?_ (by first|omega|(simp;omega)) _)))))
  (fail)
 all_goals go_wp2_with fail
 all_goals
  go_at_call 134
  refine(HMy.out _ ?_).mono ?_
  ·repeat(first|with_reducible exact HB3.out|with_reducible refine Below.drew ?_|with_reducible refine Below.alloc ?_ (by first|omega|(simp;omega)) _)
  rintro e w4 ⟨rfl,hb4⟩
  have HB4:Hid (Below w.heap.size w w4):=((HB3.out.alloc HB3.out.size _).drew).trans (hb4.mono (by simp;omega))
  clear hb4
  go_wp2
  go_ret2
  exact⟨rfl,HB4.out⟩
set_option maxHeartbeats 2000000
set_option maxRecDepth 100000
variable {w w':World}{S:Nat}{hb:Option Nat}{t:SvP}{s:St}
theorem SInAt.below (h:SInAt w S hb t s)(k:Below w.heap.size w w'):SInAt w' S hb t s:=by
 obtain⟨⟨v,u,hD,H,h3⟩,hne⟩:=h;refine⟨⟨v,u,(k.block S (blkLt hD)).trans hD,H.other (fun b hb'=>?_),h3⟩,hne⟩;obtain⟨⟨all,h1,_⟩,hbk⟩:=H;obtain⟨cur,hc⟩:=ownsRow_blk h1 (hbk.trans hb');exact k.block b (blkLt hc)
theorem SInAt.hbBlk {b:Nat}(h:SInAt w S hb t s)(e:hb=some b):∃cur,w.heap[b]?=some (.cells cur 5 (0,0)):=by
 obtain⟨⟨v,u,hD,H,h3⟩,hne⟩:=h;obtain⟨⟨all,h1,_⟩,hbk⟩:=H;exact ownsRow_blk h1 (hbk.trans e)
theorem SInAt.blk (h:SInAt w S hb t s):∃Z,w.heap[S]?=some (.cells Z 143 (0,0))∧Z[2]?=some (.map (some t.m)):=by
 obtain⟨⟨v,u,hD,H,h3⟩,hne⟩:=h;exact⟨_,hD,rfl⟩
theorem SInAt.keep (h:SInAt w S hb t s)(k:∀b,b=S∨hb=some b→w'.heap[b]?=w.heap[b]?):SInAt w' S hb t s:=by
 obtain⟨⟨v,u,hD,H,h3⟩,hne⟩:=h;exact⟨⟨v,u,(k S (.inl rfl)).trans hD,H.other (fun b hb'=>k b (.inr hb')),h3⟩,hne⟩
theorem Turn2.chg {D:Nat}(h:Turn2 D hb w.drew w'):Chg (D::hb.toList) w w':=
 ⟨h.os,h.tape,h.output,h.size,fun b hb' hn=>h.block b hb' (fun e=>hn (by simp[e])) (fun e=>hn (by simp[←e]))⟩
def Heard (w w':World)(S q yb vb i kn:Nat)(hb:Option Nat)(t:SvP)(held:List UInt8)(r:Reply)(l:List (Nat×Value))(k:Int)(kv:Value)(val wd:ByteArray)(ft:Bool)(cid:Int)(n:Nat)(fa re:Bool)(Zy Zv:Array Value):Prop:=
 ∃(hb':Option Nat) (j:Nat) (p:Nat×Value),SInAt w' S hb' t ⟨held.drop r.used,false,false⟩∧Fresh w hb hb'∧l[j]?=some p∧p.1=r.id∧MapS w' t.m (l.eraseIdx j)∧w'.heap[q]?=some (quO k kv val wd ft cid (n:Int) fa (re || decide (r.st=2)) (.slice (some ⟨yb,0,none⟩) kn kn) (.slice (some ⟨vb,0,none⟩) kn kn))∧w'.heap[yb]?=some (.cells (Zy.set! i (.bool (decide (r.st=0)))) 4 (0,0))∧w'.heap[vb]?=some (.cells (Zv.set! i (.string r.val)) 9 (0,0))∧Chg (S::t.m::q::yb::vb::hb.toList) w w'
theorem hear_yes (S C q yb vb i kn:Nat)(hb:Option Nat)(t:SvP)(held:List UInt8)(r:Reply)(l:List (Nat×Value))(k:Int)(kv:Value)(val wd:ByteArray)(ft:Bool)(cid:Int)(n:Nat)(fa re:Bool)(Zy Zv:Array Value)(w:World)(R:SInAt w S hb t ⟨held,false,false⟩)(hf:fromR held=(some r,true))(hm:MapS w t.m l)(hk:∃p∈l,p.1=r.id)(hu:∀p∈l,p.1=r.id→p.2=partV C q i)(hq:w.heap[q]?=some (quO k kv val wd ft cid ((n+1:Nat):Int) fa re (.slice (some ⟨yb,0,none⟩) kn kn) (.slice (some ⟨vb,0,none⟩) kn kn)))(hy:w.heap[yb]?=some (.cells Zy 4 (0,0)))(hv:w.heap[vb]?=some (.cells Zv 9 (0,0)))(hZy:Zy.size=kn)(hZv:Zv.size=kn)(hi:i<kn)(hkn:kn≤1000)(hn:n≤1000)(hmay:mayB k r=true):Calls Tryz.prog 94 #[.pointer (some ⟨S,0,none⟩)] w fun e w'=>e= .returned (.tuple #[.pointer (some ⟨C,0,none⟩),.bool true])∧Heard w w' S q yb vb i kn hb t held r l k kv val wd ft cid n fa re Zy Zv:=by
 have HR:=hide' R;obtain⟨⟨v,u,hD,H,_⟩,hne⟩:=R;obtain⟨d0,d1,d2,d3,d4,df⟩:=siCells hD;have dm:=siAll hD;have hlt:=blkLt hD;have HW:=hide' (sWaiting_any S u v hb held w H d1 d2);have HFr:=hide' (fun(a:Option Addr) (n c:Nat) (W:World) (h:BytesA W a n c held)=>from_any a n c held W h);rw[hf]at HFr;obtain⟨_,hst,hid,hvs,hu7,hul⟩:=fromR_some hf;have hused:¬(r.used:Int)=0:=by omega
 have HLk:Hid (∀W,Below w.heap.size w W→(Instr.lookup 141 (.map (some t.m)) (.int .u16 (r.id:Int)) true).run Tryz.prog W= .ok (.tuple #[partV C q i,.bool true]) W):=fun W hW=>by
  obtain⟨p,hp,hpk,hr⟩:=run_lookup_yes W t.m r.id l (hm.at_.other (hW.block t.m hm.lt)) hk;rw[hu p hp hpk]at hr;exact hr
 have HMy:Hid (∀W,Below w.heap.size w W→Calls Tryz.prog 134 #[partV C q i,replyV r] W fun e w'=>e= .returned (.bool true)∧Below W.heap.size W w'):=fun W hW=>by
  have:=mayBe_any C q i k kv val wd ft cid _ fa re _ _ r W ((hW.block q (blkLt hq)).trans hq);rw[hmay]at this;exact this
 have hql:=blkLt hq;have hyl:=blkLt hy;have hvl:=blkLt hv;have hml:=hm.lt;obtain⟨ZS,hS1,hS2⟩:=HR.out.blk;have hSm:S≠t.m:=fun e=>by
  obtain⟨es,clock,h1,_⟩:=hm;rw[←e,hS1]at h1;cases h1
 have hbm:∀b,hb=some b→b≠t.m:=fun b e e2=>by
  obtain⟨es,clock,h1,_⟩:=hm;obtain⟨cur,hc⟩:=HR.out.hbBlk e;rw[←e2,hc]at h1;cases h1
 have off:∀(b T:Nat) (Z:Array Value),w.heap[b]?=some (.cells Z T (0,0))→T≠143→T≠5→b≠S∧some b≠hb∧b≠t.m:=fun b T Z hZ h1 h2=>by
  refine⟨fun e=>?_,fun e=>?_,fun e=>?_⟩
  ·rw[e,hS1]at hZ;simp at hZ;exact h1 hZ.2.symm
  ·obtain⟨cur,hc⟩:=HR.out.hbBlk e.symm;rw[hc]at hZ;simp at hZ;exact h2 hZ.2.symm
  ·obtain⟨es,clock,h1',_⟩:=hm;rw[e,h1']at hZ;cases hZ
 have hq':=hq;unfold quO at hq';have HOff:=hide' (And.intro (off q 216 _ hq' (by decide) (by decide)) (And.intro (off yb 4 _ hy (by decide) (by decide)) (And.intro (off vb 9 _ hv (by decide) (by decide)) (And.intro hSm hbm))));have HQ:=hide' (And.intro hq (And.intro hy (And.intro hv hm)));have HK:=hide' hk;have hhb:∀b,hb=some b→b<w.heap.size:=fun b e=>by obtain⟨cur,hc⟩:=HR.out.hbBlk e;exact blkLt hc
 have HHB:=hide' hhb;have HUse:Hid (∀W,Below w.heap.size w W→Calls Tryz.prog 126 #[.pointer (some ⟨S,3,none⟩),.int .i64 (r.used:Int)] W fun e w'=>e= .returned (.tuple #[])∧SInTo W w' S hb t ⟨held.drop r.used,false,false⟩):=fun W hW=>sUse_any S r.used t hb ⟨held,false,false⟩ W (HR.out.below hW) hul
 have HTk:Hid (∀W,W.heap[q]?=w.heap[q]?→W.heap[yb]?=w.heap[yb]?→W.heap[vb]?=w.heap[vb]?→Calls Tryz.prog 135 #[.pointer (some ⟨q,0,none⟩),.int .i64 (i:Int),replyV r] W fun e w'=>e= .returned (.tuple #[])∧w'.heap[q]?=some (quO k kv val wd ft cid (n:Int) fa (re || decide (r.st=2)) (.slice (some ⟨yb,0,none⟩) kn kn) (.slice (some ⟨vb,0,none⟩) kn kn))∧w'.heap[yb]?=some (.cells (Zy.set! i (.bool (decide (r.st=0)))) 4 (0,0))∧w'.heap[vb]?=some (.cells (Zv.set! i (.string r.val)) 9 (0,0))∧Chg [q,yb,vb] W w'):=fun W h1 h2 h3=>qtake_any q yb vb i kn k kv val wd ft cid n fa re Zy Zv r W (h1.trans hq) (h2.trans hy) (h3.trans hv) hZy hZv hi hkn hn hst
 clear hD H hk hm hu hq hmay hy hv off hq' hS1 hS2 hSm hbm hhb;obtain⟨st,rid,rv,used⟩:=r;simp only at hused HLk hst hid;unfold fromV replyV at HFr;unfold replyV at HMy HTk;unfold partV at HLk HMy;simp only at HFr HMy HTk HUse;go_enter Tryz.func94,Tryz.ntmps94;go_wp2_with fail
 go_at_call 125;refine HW.out.mono ?_;rintro e w1 ⟨⟨a,c,rfl,hBA,_,_⟩,q1,hw1⟩;have hF:=HFr.out a _ c w1 (by rw[hw1];exact⟨hBA.len,hBA.cap,hBA.small,hBA.ag,hBA.by_⟩);have HF:=hide' hF;have HB1:Hid (Below w.heap.size w w1):=by rw[hw1];exact below_drewN (Below.refl _ _) q1
 clear hBA hF hw1;go_wp2_with fail
 go_at_call 133;refine HF.out.mono ?_;rintro e w2 ⟨rfl,hb2⟩;have HB2:=hide' (HB1.out.trans (hb2.mono HB1.out.size));have dm2:=(HB2.out.cell (p:=⟨S,2,none⟩) hlt).trans dm;have hlt2:S<w2.heap.size:=Nat.lt_of_lt_of_le hlt HB2.out.size;have hSn:¬S=w2.heap.size:=by omega
 clear hb2 d0 d1 d2 d3 d4 df dm;go_wp2_with fail
 have hb3:Below w.heap.size w (w2.alloc (.cells #[.int .i64 (st:Int),.int .u16 (rid:Int),.string rv,.int .i64 (used:Int)] 224)):=HB2.out.alloc HB2.out.size _;have hN:=blkNew w2 (.cells #[.int .i64 (st:Int),.int .u16 (rid:Int),.string rv,.int .i64 (used:Int)] 224);have dm3:=(hb3.cell (p:=⟨S,2,none⟩) hlt).trans ((HB2.out.cell (p:=⟨S,2,none⟩) hlt).symm.trans dm2);generalize w2.alloc (.cells #[.int .i64 (st:Int),.int .u16 (rid:Int),.string rv,.int .i64 (used:Int)] 224)=w3 at*;have r0:=blkCell hN 0;have r1:=blkCell hN 1;have r2:=blkCell hN 2;have r3:=blkCell hN 3;simp at r0 r1 r2 r3;have hlN:=blkLt hN;have hlt3:S<w3.heap.size:=Nat.lt_of_lt_of_le hlt hb3.size;have HB3:=hide' hb3;have hsz3:=hb3.size
 have hNn:¬w2.heap.size=w3.heap.size:=by omega
 have HNB:=hide' hN;clear hb3 hN dm2;go_region_held3 (fun W'=>W'.cell? ⟨S,2,none⟩=some (.map (some t.m))∧W'.cell? ⟨w2.heap.size,1,none⟩=some (.int .u16 (rid:Int))∧(Instr.lookup 141 (.map (some t.m)) (.int .u16 (rid:Int)) true).run Tryz.prog W'= .ok (.tuple #[.agg #[.pointer (some ⟨C,0,none⟩),.pointer (some ⟨q,0,none⟩),.int .i64 (i:Int)],.bool true]) W')
  ((refine⟨?_,?_,?_⟩;(first|(go_keep)|(go_simp));(first|(go_keep)|(go_simp));(exact HLk.out _ (by repeat(first|with_reducible exact HB3.out|with_reducible exact Below.refl _ _|with_reducible refine Below.drew ?_|with_reducible refine below_drewN ?_ _|with_reducible refine Below.alloc ?_ (by first|omega|(simp;omega)) _|with_reducible refine Below.setCell ?_ (by first|omega|(simp;omega)) _)))))
  (fail)
 all_goals go_wp2_with fail
 all_goals
  go_at_call 134
  refine(HMy.out _ ?_).mono ?_
  ·repeat(first|with_reducible exact HB3.out|with_reducible refine Below.drew ?_|with_reducible refine Below.alloc ?_ (by first|omega|(simp;omega)) _)
  rintro e w4 ⟨rfl,hb4⟩
  have HB4:Hid (Below w.heap.size w w4):=((HB3.out.alloc HB3.out.size _).drew).trans (hb4.mono (by simp;omega))
  have hN4:w4.heap[w2.heap.size]?=some (.cells #[.int .i64 (st:Int),.int .u16 (rid:Int),.string rv,.int .i64 (used:Int)] 224 (0,0)):=(hb4.block _ (by simp;omega)).trans (hs_drew (hs_alloc HNB.out _))
  have hP4:w4.heap[w3.heap.size]?=some (.cells #[.pointer (some ⟨C,0,none⟩),.pointer (some ⟨q,0,none⟩),.int .i64 (i:Int)] 222 (0,0)):=(hb4.block _ (by simp)).trans (hs_drew (blkNew w3 _))
  have hlt4:S<w4.heap.size:=Nat.lt_of_lt_of_le hlt HB4.out.size
  have s2:=HB2.out.size
  have s4:=HB4.out.size
  have HU4:=hide' (HUse.out w4.drew HB4.out.drew)
  clear hb4 r0 r1 r2 r3
  have r1:=blkCell hN4 1
  have r3:=blkCell hN4 3
  simp at r1 r3
  have hl1:=blkLt hN4
  have hl2:=blkLt hP4
  have HN4:=hide' (And.intro hN4 hP4)
  clear hN4 hP4
  go_wp2_with fail
  go_region_held3 (fun W'=>W'.cell? ⟨w2.heap.size,3,none⟩=some (.int .i64 (used:Int))) (go_keep) (first
   |(go_at_call 126;refine HU4.out.mono ?_;rintro e w5 ⟨rfl,hto⟩;have nb1:some w2.heap.size≠hb:=(fun e=>by have:=HHB.out _ e.symm;omega);have nb2:some w3.heap.size≠hb:=(fun e=>by have:=HHB.out _ e.symm;omega);have hN5:=(hto.turn.block w2.heap.size (by simpa using hl1) (fun e=>hSn e.symm) nb1).trans (hs_drew HN4.out.1);have hP5:=(hto.turn.block w3.heap.size (by simpa using hl2) (by omega) nb2).trans (hs_drew HN4.out.2);have r35:=blkCell hN5 3;simp at r35;have HT5:=hide' (And.intro hto (And.intro hN5 hP5));clear hto hN5 hP5 r1 r3)
   |fail)
  all_goals
   obtain⟨⟨hb',hR5,hFr5⟩,hT5⟩:=HT5.out.1
   obtain⟨ZS5,hS5,hS52⟩:=hR5.blk
   have dm5:w5.cell? ⟨S,2,none⟩=some (.map (some t.m)):=(blkCell hS5 2).trans hS52
   have r15:=blkCell HT5.out.2.1 1
   simp at r15
   have hmk:w5.heap[t.m]?=w.heap[t.m]?:=(hT5.block t.m (Nat.lt_of_lt_of_le hml s4) (fun e=>HOff.out.2.2.2.1 e.symm) (fun e=>HOff.out.2.2.2.2 _ e.symm rfl)).trans (HB4.out.block t.m hml)
   have HM5:Hid (MapS w5.drew t.m l):=HQ.out.2.2.2.other (w':=w5.drew) hmk
   have H5:=hide' (And.intro hR5 (And.intro hFr5 hT5))
   have hl5:=blkLt hS5
   have hlN5:=blkLt HT5.out.2.1
   have hlP5:=blkLt HT5.out.2.2
   have hSZ:=hide' hS5
   have nNm:w2.heap.size≠t.m:=by omega
   have nPm:w3.heap.size≠t.m:=by omega
   clear hR5 hFr5 hT5 hS52 hmk r35 hS5
   go_wp2_with fail
   go_region_held3 (fun W'=>W'.cell? ⟨S,2,none⟩=some (.map (some t.m))∧W'.cell? ⟨w2.heap.size,1,none⟩=some (.int .u16 (rid:Int))) (go_keep) (first
    |(refine step_delete _ (by rfl) _ _ (by rfl) t.m rid l (by rfl) (by rfl) HM5.out HK.out ?_;intro w6 j p h1 h2 h3 h4 h5;have hN6:=(h4.block w2.heap.size (by simpa using hlN5) (by simpa using nNm)).trans (hs_drew HT5.out.2.1);have hP6:=(h4.block w3.heap.size (by simpa using hlP5) (by simpa using nPm)).trans (hs_drew HT5.out.2.2);have hS6:=h4.block S (by simpa using hl5) (by simpa using HOff.out.2.2.2.1);have dm6:w6.cell? ⟨S,2,none⟩=some (.map (some t.m)):=(World.cell?_of_block (a:=⟨S,2,none⟩) hS6).trans dm5;have r16:=blkCell hN6 1;simp at r16;have H6:=hide' (And.intro h1 (And.intro h2 (And.intro h3 (And.intro h4 (And.intro h5 (And.intro hN6 hP6))))));clear h1 h2 h3 h4 h5 hN6 hP6 hS6 dm5 r15)
    |fail)
   all_goals
    have q0:=blkCell H6.out.2.2.2.2.2.1 0
    have q1':=blkCell H6.out.2.2.2.2.2.1 1
    have q2:=blkCell H6.out.2.2.2.2.2.1 2
    have q3:=blkCell H6.out.2.2.2.2.2.1 3
    have p0:=blkCell H6.out.2.2.2.2.2.2 0
    have p1:=blkCell H6.out.2.2.2.2.2.2 1
    have p2:=blkCell H6.out.2.2.2.2.2.2 2
    simp at q0 q1' q2 q3 p0 p1 p2
    have hlN6:=blkLt H6.out.2.2.2.2.2.1
    have hlP6:=blkLt H6.out.2.2.2.2.2.2
    have kp:∀b,b<w.heap.size→(b≠S∧some b≠hb∧b≠t.m)→w6.heap[b]?=w.heap[b]?:=fun b hbl h=>by
     have hb4:b<w4.heap.size:=Nat.lt_of_lt_of_le hbl s4;have e5:=H5.out.2.2.block b (by simpa using hb4) h.1 h.2.1;have hb5:b<w5.heap.size:=Nat.lt_of_lt_of_le hb4 H5.out.2.2.size;exact(H6.out.2.2.2.1.block b (by simpa using hb5) (by simpa using h.2.2)).trans (e5.trans (HB4.out.block b hbl))
    have HT6:=hide' (HTk.out w6 (kp q hql HOff.out.1) (kp yb hyl HOff.out.2.1) (kp vb hvl HOff.out.2.2.1))
    have HKp:=hide' kp
    clear kp
    go_wp2_with fail
    go_at_call 135
    refine HT6.out.mono ?_
    rintro e w7 ⟨rfl,a1,a2,a3,a4⟩
    have hP7:=(a4.block w3.heap.size (by simpa using hlP6) (by simp;omega)).trans H6.out.2.2.2.2.2.2
    have p07:=blkCell hP7 0
    simp at p07
    have hlP7:=blkLt hP7
    have HA:=hide' (And.intro a1 (And.intro a2 (And.intro a3 a4)))
    clear a1 a2 a3 a4 hP7 p0 p1 p2
    go_wp2
    go_ret2
    refine⟨rfl,hb',j,p,?_,?_,H6.out.1,H6.out.2.1,?_,HA.out.1,HA.out.2.1,HA.out.2.2.1,?_⟩
    ·refine H5.out.1.keep (fun b hbb=>?_);have h7:∀b,b<w6.heap.size→b≠q→b≠yb→b≠vb→w7.heap[b]?=w6.heap[b]?:=fun b h1 h2 h3 h4=>HA.out.2.2.2.block b h1 (by simp[h2,h3,h4])
     have h6:∀b,b<w5.heap.size→b≠t.m→w6.heap[b]?=w5.heap[b]?:=fun b h1 h2=>H6.out.2.2.2.1.block b h1 (by simpa using h2)
     have hs6:w6.heap.size=w5.heap.size:=H6.out.2.2.2.2.1;rcases hbb with e|e
     ·subst e;exact(h7 b (by omega) (fun e=>HOff.out.1.1 e.symm) (fun e=>HOff.out.2.1.1 e.symm) (fun e=>HOff.out.2.2.1.1 e.symm)).trans (h6 b hl5 HOff.out.2.2.2.1)
     ·obtain⟨cur,hc⟩:=H5.out.1.hbBlk e;have hbl:=blkLt hc;have hm6:b≠t.m:=fun e2=>by
       obtain⟨es,clock,h1,_⟩:=HM5.out;have h1':w5.heap[t.m]?=some (.map es clock):=h1;rw[←e2,hc]at h1';cases h1'
      have e6:=h6 b hbl hm6;have nn:∀(x T:Nat) (Z:Array Value),w.heap[x]?=some (.cells Z T (0,0))→T≠5→x<w.heap.size→(x≠S∧some x≠hb∧x≠t.m)→b≠x:=fun x T Z hZ hT hxl ho e2=>by
       have:=HKp.out x hxl ho;rw[←e2,e6,hc]at this;rw[←e2,←this]at hZ;simp at hZ;exact hT hZ.2.symm
      have hq':=HQ.out.1;unfold quO at hq';exact(h7 b (by omega) (nn q 216 _ hq' (by decide) hql HOff.out.1) (nn yb 4 _ HQ.out.2.1 (by decide) hyl HOff.out.2.1) (nn vb 9 _ HQ.out.2.2.1 (by decide) hvl HOff.out.2.2.1)).trans e6
    ·rcases H5.out.2.1 with e|e|⟨x,e,hx⟩
     ·exact .inl e
     ·exact .inr (.inl e)
     ·exact .inr (.inr ⟨x,e,Nat.le_trans s4 hx⟩)
    ·refine H6.out.2.2.1.other (HA.out.2.2.2.block t.m H6.out.2.2.1.lt ?_);simp only[List.mem_cons,List.not_mem_nil,or_false,not_or]
     exact⟨fun e=>HOff.out.1.2.2 e.symm,fun e=>HOff.out.2.1.2.2 e.symm,fun e=>HOff.out.2.2.1.2.2 e.symm⟩
    ·have c4:Chg (S::t.m::q::yb::vb::hb.toList) w w4:=Chg.of_below HB4.out;have c5:=c4.trans H5.out.2.2.chg (fun b hb=> .inl (by simp at hb⊢;rcases hb with h|h<;>simp[h]));have c6:=c5.trans (Chg.undrew H6.out.2.2.2.1) (fun b hb=> .inl (by simp at hb;simp[hb]));exact c6.trans HA.out.2.2.2 (fun b hb=> .inl (by simp at hb;rcases hb with h|h|h<;>simp[h]))
end Go.Proofs.YtlonjggfnleolaaGreatDoor
namespace Go.Proofs.YtlonjggfnleolaaGreatDoor
open Go.RowKit Go.Shelf
open Go.ChangeMaps (setBlock)
set_option linter.unusedVariables false
structure QD where
 k:Int
 kv:Value
 val:ByteArray
 wd:ByteArray
 ft:Bool
 cid:Int
 n:Nat
 fa:Bool
 re:Bool
 yv:Value
 vv:Value
def qdO (d:QD):Obj:=quO d.k d.kv d.val d.wd d.ft d.cid (d.n:Int) d.fa d.re d.yv d.vv
def failN (d:QD)(c:Nat):QD:={d with n:=d.n-c,fa:=d.fa || decide (0<c)}
def qOf:Value→Nat
 | .agg a=>(match a.toList with| [_,.pointer (some ad),_]=>ad.block|_=>0)
 |_=>0
theorem qOf_part (C q:Nat)(i:Int):qOf (partV C q i)=q:=rfl
def cntE (vis:List MapEntry)(q:Nat):Nat:=vis.countP (fun e=>qOf e.val==q)
theorem cntE_snoc (vis:List MapEntry)(e:MapEntry)(q:Nat):cntE (vis++[e]) q=cntE vis q+(if qOf e.val=q then 1 else 0):=by
 unfold cntE;rw[List.countP_append];by_cases h:qOf e.val=q<;>simp[h]
def seenOf (w:World)(r:Nat):Nat:=match w.heap[r]?with|some (.mapIter _ _ seen _)=>seen.size|_=>0
section
variable {P:Program}(w:World){ops:Array Oper}{rest:List Oper}{o:Oper}{a:Act}{Q:Exit→Act→World→Prop}
end
theorem run_range_map (w:World)(m:Nat)(es:Array MapEntry)(clock:Nat)(h:w.heap[m]?=some (.map es clock)):(Instr.range 141 (.map (some m))).run Tryz.prog w= .ok (.pointer (some ⟨w.heap.size,0,none⟩)) (w.alloc (.mapIter (some m) clock #[] clock)):=by
 simp[Instr.range,run_underlying Tryz.underlying141,MapKept.run_getObj_map h,Result.andThen,newObj,Sem.run]
end Go.Proofs.YtlonjggfnleolaaGreatDoor
namespace Go.Proofs.YtlonjggfnleolaaGreatDoor
open Go.RowKit Go.Shelf
set_option linter.unusedVariables false
variable {w wr:World}{S clock:Nat}{t:SvP}{es:Array MapEntry}{qd:Nat→Option QD}{seen:Array Nat}{vis rem:List MapEntry}{e:MapEntry}
structure FallAt (w wr:World)(S:Nat)(t:SvP)(es:Array MapEntry)(clock:Nat)(qd:Nat→Option QD)(seen:Array Nat)(vis rem:List MapEntry):Prop where
 it:wr.heap[w.heap.size]?=some (.mapIter (some t.m) clock seen clock)
 sn:seen.toList=vis.map (·.born)
 pm:(vis++rem).Perm es.toList
 sv:wr.heap[S]?=some (svP {t with dn:=true} (.slice none 0 0) 0 false false)
 mp:wr.heap[t.m]?=some (.map es clock)
 qs:∀q d,qd q=some d→wr.heap[q]?=some (qdO (failN d (cntE vis q)))
 os:wr.os=w.os
 tape:wr.tape=w.tape
 output:wr.output=w.output
 size:w.heap.size<wr.heap.size
 fr:∀b,b<w.heap.size→b≠S→qd b=none→wr.heap[b]?=w.heap[b]?
theorem failN_step (d:QD)(c:Nat)(h:c+1≤d.n):(failN d c).n=(d.n-(c+1))+1∧failN d (c+1)={failN d c with n:=d.n-(c+1),fa:=true}:=by
 unfold failN;refine⟨by simp only;omega,by simp⟩
theorem FallAt.left (h:FallAt w wr S t es clock qd seen vis rem)(he:e∈(leftOf es seen).toList):e∈es.toList∧e∈rem:=by
 unfold leftOf at he;simp at he;obtain⟨h1,h2⟩:=he;refine⟨by simpa using h1,?_⟩;have h3:e∈vis++rem:=h.pm.mem_iff.2 (by simpa using h1);rcases List.mem_append.1 h3 with h4|h4
 ·exfalso;apply h2;have:e.born∈seen.toList:=by rw[h.sn];exact List.mem_map.2 ⟨e,h4,rfl⟩
  simpa using this
 ·exact h4
theorem FallAt.over (h:FallAt w wr S t es clock qd seen vis rem)(hn:(es.toList.map (·.born)).Nodup)(h0:(leftOf es seen).size=0):rem=[]:=by
 cases rem with
 |nil=>rfl
 |cons x rem=>
  exfalso;have hx:x∈es.toList:=h.pm.mem_iff.1 (by simp);have hnd:((vis++x::rem).map (·.born)).Nodup:=(h.pm.map (·.born)).nodup_iff.2 hn;rw[List.map_append,List.map_cons]at hnd;have hnx:x.born∉seen.toList:=by
   rw[h.sn];intro hm;exact(List.nodup_append.1 hnd).2.2 _ hm _ (by simp) rfl
  have:x∈(leftOf es seen).toList:=by
   unfold leftOf;simp;exact⟨by simpa using hx,by simpa using hnx⟩
  rw[Array.eq_empty_of_size_eq_zero h0]at this;simp at this
theorem seenOf_at (h:FallAt w wr S t es clock qd seen vis rem):seenOf wr w.heap.size+rem.length=es.size:=by
 unfold seenOf;rw[h.it];have h1:=h.pm.length_eq;have h2:=congrArg List.length h.sn;simp at h1 h2;simp only
 omega
theorem FallAt.more {w1 w2:World}(h:FallAt w wr S t es clock qd seen vis rem)(he:e∈rem){q:Nat}{d:QD}(hq:qOf e.val=q)(hd:qd q=some d)(hne:q<w.heap.size∧q≠S∧q≠t.m)(hSl:S<w.heap.size)(hml:t.m<w.heap.size)(hSm:S≠t.m)(hall:∀q d,qd q=some d→q<w.heap.size∧q≠S∧q≠t.m)(hcnt:cntE es.toList q≤d.n)(h1:w1.heap[w.heap.size]?=some (.mapIter (some t.m) clock (seen.push e.born) clock))(k1:Chg [w.heap.size] wr w1){O:Obj}(h2:w2.heap[q]?=some (qdO {failN d (cntE vis q)with n:=d.n-(cntE vis q+1),fa:=true}))(k2:Chg [q] (w1.alloc O) w2):∃rem',rem'.length+1=rem.length∧FallAt w w2 S t es clock qd (seen.push e.born) (vis++[e]) rem':=by
 obtain⟨r1,r2,rfl⟩:=List.append_of_mem he;have hp2:((vis++[e])++(r1++r2)).Perm es.toList:=by
  refine List.Perm.trans ?_ h.pm;rw[List.append_assoc];exact List.Perm.append_left vis (show(e::(r1++r2)).Perm (r1++e::r2)from List.perm_middle.symm)
 have hc:cntE vis q+1≤d.n:=by
  have e1:cntE ((vis++[e])++(r1++r2)) q=cntE es.toList q:=hp2.countP_eq _;have e2:cntE ((vis++[e])++(r1++r2)) q=cntE (vis++[e]) q+cntE (r1++r2) q:=by unfold cntE;rw[List.countP_append]
  rw[cntE_snoc,if_pos hq]at e2;omega
 have hs1:w1.heap.size≤(w1.alloc O).heap.size:=by simp
 have kk:∀b,b<wr.heap.size→b≠w.heap.size→b≠q→w2.heap[b]?=wr.heap[b]?:=fun b hb n1 n2=>by
  have hb1:b<w1.heap.size:=Nat.lt_of_lt_of_le hb k1.size;exact(k2.block b (by simp;omega) (by simpa using n2)).trans ((Below.heap_alloc _ _ _ hb1).trans (k1.block b hb (by simpa using n1)))
 have hlr:w.heap.size<w1.heap.size:=blkLt h1;refine⟨r1++r2,by simp;omega,⟨?_,?_,hp2,?_,?_,fun q' d' hd'=>?_,?_,?_,?_,?_,fun b hb n1 n2=>?_⟩⟩
 ·exact(k2.block w.heap.size (by simp;omega) (by simp;omega)).trans ((Below.heap_alloc _ _ _ hlr).trans h1)
 ·rw[Array.toList_push,h.sn,List.map_append];rfl
 ·exact(kk S (Nat.lt_trans hSl h.size) (by omega) (fun e=>hne.2.1 e.symm)).trans h.sv
 ·exact(kk t.m (Nat.lt_trans hml h.size) (by omega) (fun e=>hne.2.2 e.symm)).trans h.mp
 ·by_cases hqq:q'=q
  ·subst hqq;rw[hd]at hd';cases hd';rw[cntE_snoc,if_pos hq,(failN_step d _ hc).2];exact h2
  ·rw[cntE_snoc,if_neg (fun e=>hqq (e.symm.trans hq)),Nat.add_zero];have:=hall q' d' hd';exact(kk q' (Nat.lt_trans this.1 h.size) (by omega) hqq).trans (h.qs q' d' hd')
 ·exact k2.os.trans (k1.os.trans h.os)
 ·exact k2.tape.trans (k1.tape.trans h.tape)
 ·exact k2.output.trans (k1.output.trans h.output)
 ·exact Nat.lt_of_lt_of_le hlr (Nat.le_trans hs1 k2.size)
 ·exact(kk b (Nat.lt_trans hb h.size) (by omega) (fun e=>by rw[e,hd]at n2;cases n2)).trans (h.fr b hb n1 n2)
end Go.Proofs.YtlonjggfnleolaaGreatDoor
