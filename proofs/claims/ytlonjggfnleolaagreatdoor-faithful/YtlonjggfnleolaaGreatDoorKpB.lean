import Derived.Test.YtlonjggfnleolaaGreatDoorBnX
namespace Go.Proofs.YtlonjggfnleolaaGreatDoor
open Go.RowKit Go.Shelf Go.Conc
set_option linter.unusedVariables false
set_option maxHeartbeats 1000000
set_option maxRecDepth 100000
theorem MakeAt.done {w0 W:World}{X sv pt win:Nat}{rv:Value}{vs:List SvI}(h:MakeAt w0 W X sv pt win sv rv vs)(h1:1≤sv)(h4:sv≤4)(hp:pt≤16):∃g sc,JunAt W X sv pt win g sc (.slice none 0 0) [] [] vs (List.replicate sv ⟨0,[]⟩)∧w0.heap.size≤g∧∀b∈footJ X (.slice none 0 0) [] vs,w0.heap.size≤b:=by
 rcases h.row.2 with⟨_,h0⟩|⟨g,sc,cur,rfl,_,c1,c2,_,c4,c5⟩
 ·omega
 ·refine⟨g,sc,⟨h.blk,⟨cur,c1,fun j u hu=>?_⟩,h.len,h1,h4,c2,hp,World.ownsRow_nil _ _ _ _,rfl,fun i v s hv _=>(by simp at hv),fun i j v u _ hv _=>(by simp at hv),h.srv,fun i v hv=>(by simp at hv)⟩,h.gr g rfl,fun b hb=>?_⟩
  ·have hj:=(List.getElem?_eq_some_iff.1 hu).1;rw[h.len]at hj;have h6:(cur.toList.take (sv*1))[j]?=(vs.map (fun v=>ptrV v.S))[j]?:=by rw[c5]
   rw[List.getElem?_take_of_lt (by omega),List.getElem?_map,hu]at h6;simpa [ptrV]using h6
  ·unfold footJ at hb;simp[Value.ownBlock]at hb;rcases hb with e|e
   ·rw[e];exact h.ge
   ·exact h.gs b e
theorem new_yesF (sv pt win:Nat)(w:World)(hc:configB sv pt win=true)(h1:1≤sv)(h4:sv≤4)(hp:pt≤16):Calls Tryz.prog 53 #[.agg #[.int .i64 (sv:Int),.int .i64 (pt:Int),.int .i64 (win:Int)]] w fun e w'=>∃X g sc vs,e= .returned (.tuple #[.pointer (some ⟨X,0,none⟩),.int .i64 0])∧JunAt w' X sv pt win g sc (.slice none 0 0) [] [] vs (List.replicate sv ⟨0,[]⟩)∧Below w.heap.size w w'∧w.heap.size≤g∧(∀b∈footJ X (.slice none 0 0) [] vs,w.heap.size≤b)∧∀v∈vs,∃S m,v=newS S m:=by
 have HC:Hid (∀W,Calls Tryz.prog 84 #[.agg #[.int .i64 (sv:Int),.int .i64 (pt:Int),.int .i64 (win:Int)]] W fun e w'=>e= .returned (.bool true)∧Below W.heap.size W w'):=fun W=>by rw[←hc];exact config_any sv pt win W
 have HNew:Hid (∀W,Calls Tryz.prog 85 #[] W fun e w'=>e= .returned (.pointer (some ⟨W.heap.size+1,0,none⟩))∧w'=(W.alloc (.map #[] 0)).alloc (svO false 0 W.heap.size (.slice none 0 0) 0 false false (.pointer none) (.slice none 0 0))):=fun W=>newServer_any W
 obtain⟨i1,hi,hz0,hz1,hz2⟩:=info137;have HI:=hide' (And.intro hi (And.intro hz0 (And.intro hz1 hz2)));clear hc hi hz0 hz1 hz2;go_enter Tryz.func53,Tryz.ntmps53;go_wp2_with fail
 go_at_call 84;refine(HC.out _).mono ?_;rintro e w1 ⟨rfl,hb⟩;have p0:w1.cell? ⟨w.heap.size,0,none⟩=some (.int .i64 (sv:Int)):=(hb.cell (p:=⟨w.heap.size,0,none⟩) (by simp)).trans (blkCell (blkNew w _) 0);have p1:w1.cell? ⟨w.heap.size,1,none⟩=some (.int .i64 (pt:Int)):=(hb.cell (p:=⟨w.heap.size,1,none⟩) (by simp)).trans (blkCell (blkNew w _) 1);have p2:w1.cell? ⟨w.heap.size,2,none⟩=some (.int .i64 (win:Int)):=(hb.cell (p:=⟨w.heap.size,2,none⟩) (by simp)).trans (blkCell (blkNew w _) 2);have hlw:w.heap.size<w1.heap.size:=Nat.lt_of_lt_of_le (by simp) hb.size;have hne:¬w.heap.size=w1.heap.size:=by omega
 have hne2:¬w1.heap.size=w.heap.size:=by omega
 have hb1:Below w.heap.size w w1:=((Below.refl _ _).alloc (Nat.le_refl _) _).trans (hb.mono (by simp));have hmk:MakeAt w (w1.alloc (juO sv pt win (.slice none 0 0) (.slice none 0 0))) w1.heap.size sv pt win 0 (.slice none 0 0) []:=
  ⟨blkNew w1 _,World.ownsRow_nil _ _ _ _,rfl,⟨rfl,fun j v s hv _=>(by simp at hv),fun i j v u _ hv _=>(by simp at hv)⟩,hb1.alloc (by omega) _,by omega,fun b hb=>(by cases hb),fun b hb=>(by simp[feetV]at hb),fun v hv=>(by cases hv)⟩
 have HMk:=hide' hmk;have HB1:=hide' hb1;clear hb hb1 hmk;unfold juO at HMk;go_wp2_with fail
 generalize w1.heap.size=X at*;generalize w1.alloc (.cells #[.int .i64 (sv:Int),.int .i64 (pt:Int),.int .i64 (win:Int),.slice none 0 0,.slice none 0 0] 129)=w2 at*;go_loopw [13] (fun i wr=>∃(j:Nat) (rv:Value) (vs:List SvI),j≤sv∧i= .int .i64 (j:Int)∧Hid (MakeAt w wr X sv pt win j rv vs)) (fun i _=>sv-(intOf i).toNat)
 case atStart=>exact⟨0,_,[],Nat.zero_le _,rfl,HMk⟩
 case round=>
  obtain⟨j,rv,vs,hj,rfl,HJ⟩:=hrel;by_cases hlt:j<sv
  ·have hlt':(j:Int)<(sv:Int):=by omega
   obtain⟨ra,rc,rfl⟩:∃a c,rv= .slice a j c:=by
    rcases HJ.out.row.2 with⟨e,h0⟩|⟨g',cap,cur,e,_⟩
    ·exact⟨_,_,by rw[e,h0]⟩
    ·exact⟨_,_,e⟩
   have c4:=(juCells HJ.out.blk).2.2.2.2.1;have cf:=(juCells HJ.out.blk).2.2.2.2.2 4;have hlX:=blkLt HJ.out.blk;have hXg:(Value.slice ra j rc).ownBlock≠some X:=fun e=>by
    obtain⟨cur,hc⟩:=ownsRow_blk HJ.out.row e;have hb:=HJ.out.blk;unfold juO at hb;rw[hb]at hc;cases hc
   have HXG:=hide' hXg;have HRow:Hid (∀W,Below wr.heap.size wr W→W.ownsRow 0 137 1 (.slice ra j rc) j (vs.map (fun v=>ptrV v.S))):=fun W hW=>ownsRow_other HJ.out.row (fun gg hg=>by obtain⟨cur,hc⟩:=ownsRow_blk HJ.out.row hg;exact hW.block gg (blkLt hc))
   have wrj:IntKind.i64.wrap ((j:Int)+1)=(j:Int)+1:=wrap_small _ (by omega) (by omega);clear hXg p0 p1 p2;go_wp2_with fail
   go_region_law (first
    |(go_simp;go_at_call 85;refine(HNew.out _).mono ?_;rintro e w3 ⟨rfl,hw3⟩;have hb3:Below wr.heap.size wr w3:=(by rw[hw3];exact((Below.refl _ wr).drew.alloc (Nat.le_refl _) _).alloc (by simp) _);have HW3:=hide' (And.intro hw3 hb3);have e4:=(hb3.cell (p:=⟨X,4,none⟩) hlX).trans c4;have ef:=(hb3.frozen (p:=⟨X,4,none⟩) hlX).trans cf;have hlt3:=Nat.lt_of_lt_of_le hlX hb3.size;clear hw3 hb3)
    |(refine step_append_lies _ (by rfl) _ _ _ (by rfl) 0 137 i1 (.pointer none) 1 8 Tryz.underlying127 HI.out.1 HI.out.2.1 HI.out.2.2.1 HI.out.2.2.2 (by rfl) (by omega) (.slice ra j rc) j (vs.map (fun v=>ptrV v.S)) (by rfl) (HRow.out _ (HW3.out.2.alloc HW3.out.2.size _)) ⟨w3.heap.size,0,none⟩ 1 1 [.pointer (some ⟨wr.heap.size+1,0,none⟩)] (by rfl) (by rfl) (World.news_of_block (cs:=#[.pointer (some ⟨wr.heap.size+1,0,none⟩)]) (blkNew w3 _)) (fun u hu=>by simp at hu;subst hu;rfl) (by omega) (by unfold maxLen;omega) (by omega) (Nat.zero_le _) _ rfl ?_;intro g2 cap2 wa hown hgrow hat hlta;have hcA:wa.cell? ⟨X,4,none⟩=some (.slice ra j rc):=(hgrow.cell_far ⟨X,4,none⟩ (by simp;omega) (fun e=>HXG.out e.symm)).trans ((World.cell?_of_block (w:=w3) (Below.heap_alloc w3 _ _ hlt3)).trans e4);have hfA:wa.frozen? ⟨X,4,none⟩=false:=(hgrow.frozen_far ⟨X,4,none⟩ (by simp;omega) (fun e=>HXG.out e.symm)).trans ((World.frozen?_of_block (w:=w3) (Below.heap_alloc w3 _ _ hlt3)).trans ef);have HG:=hide' (And.intro hown (And.intro hgrow (And.intro hat hlta)));clear hown hgrow hat)
    |fail)
   all_goals
    have HF:=hide' (HJ.out.more HW3.out.1 HG.out.1 HG.out.2.1 HG.out.2.2.1)
    clear hcA hfA
    generalize wa.setCell ⟨X,4,none⟩ (.slice (some ⟨g2,0,none⟩) (j+1) cap2)=wf at*
    go_wp2
    go_roundw
    case rel=>exact⟨j+1,_,_,by omega,by go_num,HF⟩
    case measure=>simp[intOf];omega
  ·have hje:j=sv:=by omega
   subst hje;have hlt':¬(j:Int)<(j:Int):=by omega
   obtain⟨g,sc,f1,f2,f3⟩:=HJ.out.done h1 h4 hp;have HF:=hide' (And.intro f1 (And.intro HJ.out.bel (And.intro f2 (And.intro f3 HJ.out.fr))));clear f1 f2 f3;go_wp2;go_ret2;exact⟨X,rfl,g,sc,vs,HF.out⟩
variable {W:World}{m:Nat}
def svV (v:SvI):SrvV:=⟨v.S,v.m,none,v.bp,v.bv,[]⟩
theorem MapS.none (h:MapAt W m []):∃c,W.heap[m]?=some (.map #[] c):=by
 obtain⟨es,clock,h1,h2⟩:=h;have:es.toList=[]:=by
  cases he:es.toList with
  |nil=>rfl
  |cons a l=>rw[he]at h2;simp at h2
 have:es=#[]:=by
  apply Array.ext';rw[this]
 rw[this]at h1;exact⟨clock,h1⟩
theorem SrvAt.fresh {S:Nat}(h:SvOk W (newS S m) ⟨0,[]⟩):SrvAt W (svV (newS S m)) ⟨true,0,[],[]⟩:=by
 obtain⟨c,hm⟩:=MapS.none h.mp;refine⟨⟨⟨.slice none 0 0,0,h.blk,⟨⟨[],World.ownsRow_nil _ _ _ _,Nat.le_refl _,rfl,by simp⟩,rfl⟩,.inl rfl⟩,fun e=>by cases e⟩,⟨#[],c,hm,rfl,?_⟩,.inl rfl,BldRow.nil _,by show(0:Nat)<65536;omega,fun b hb=>(by cases hb)⟩;simp
theorem JunQ.fresh {X sv pt win g sc:Nat}{vs:List SvI}(h:JunAt W X sv pt win g sc (.slice none 0 0) [] [] vs (List.replicate sv ⟨0,[]⟩))(hw:win≤6)(hf:∀v∈vs,∃S m,v=newS S m):JunQ W X sv pt win g sc (.slice none 0 0) [] [] (vs.map svV) (List.replicate sv ⟨true,0,[],[]⟩)∧feetS (vs.map svV)=feetV vs:=by
 have hfoot:∀v∈vs,(svV v).foot=v.foot:=fun v hv=>by
  obtain⟨S,m,rfl⟩:=hf v hv;rfl
 have at_:∀(j:Nat) (u:SrvV),(vs.map svV)[j]?=some u→∃v,vs[j]?=some v∧u=svV v:=fun j u hu=>by
  rw[List.getElem?_map]at hu;obtain⟨v,hv,rfl⟩:=Option.map_eq_some_iff.1 hu;exact⟨v,hv,rfl⟩
 have hfe:feetS (vs.map svV)=feetV vs:=by
  unfold feetS feetV;rw[List.map_map];congr 1
 obtain⟨Zg,g1,g2⟩:=h.gb;refine⟨⟨h.blk,⟨Zg,g1,fun j u hu=>?_⟩,by rw[List.length_map];exact h.len,h.s1,h.s4,h.sc_,h.pt_,hw,h.row,rfl,Nat.zero_le _,fun i v s hv=>(by simp at hv),fun i j v u _ hv=>(by simp at hv),⟨by rw[List.length_map,List.length_replicate];exact h.len,fun j u s hu hs=>?_,fun i j u1 u2 hij h1 h2=>?_⟩,fun i v hv=>(by simp at hv),fun o u hu=>?_,fun s hs=>(by cases hs)⟩,hfe⟩
 ·obtain⟨v,hv,rfl⟩:=at_ j u hu;exact g2 j v hv
 ·obtain⟨v,hv,rfl⟩:=at_ j u hu;have hj:j<sv:=by rw[←h.len];exact(List.getElem?_eq_some_iff.1 hv).1
  have e:s=⟨true,0,[],[]⟩:=List.eq_of_mem_replicate (List.mem_of_getElem? hs);subst e;obtain⟨S,m,rfl⟩:=hf v (List.mem_of_getElem? hv);exact SrvAt.fresh (h.srv.ok j _ ⟨0,[]⟩ hv (by rw[List.getElem?_replicate];simp[hj]))
 ·obtain⟨v1,hv1,rfl⟩:=at_ i u1 h1;obtain⟨v2,hv2,rfl⟩:=at_ j u2 h2;rw[hfoot v1 (List.mem_of_getElem? hv1),hfoot v2 (List.mem_of_getElem? hv2)];exact h.srv.ap i j v1 v2 hij hv1 hv2
 ·obtain⟨v,hv,rfl⟩:=at_ o u hu;exact MapR.none o []
end Go.Proofs.YtlonjggfnleolaaGreatDoor
namespace Go.Proofs.YtlonjggfnleolaaGreatDoor
open Go.RowKit Go.Shelf
set_option linter.unusedVariables false
set_option maxHeartbeats 2000000
set_option maxRecDepth 20000
variable {D:Nat}{w W:World}{v:Value}
attribute [local go_sem] Oper.semAt_some
structure Got (D:Nat)(w W:World)(v:Value):Prop where
 ex:∃A C kb kc,v= .slice (some ⟨A,0,none⟩) 1 C∧w.heap.size≤A∧A<W.heap.size∧W.cell? ⟨A,0,none⟩=some (.int .i64 1)∧W.cell? ⟨A,1,none⟩=some (.slice (some ⟨kb,0,none⟩) 1 kc)∧w.heap.size≤kb∧kb<W.heap.size∧W.cell? ⟨kb,0,none⟩=some (.string ⟨#[97]⟩)
 turn:Turn D w W
theorem Got.later {W':World}(h:Got D w W v)(hb:Below W.heap.size W W'):Got D w W' v:=by
 obtain⟨⟨A,C,kb,kc,e,h1,h2,h3,h4,h5,h6,h7⟩,t⟩:=h;exact⟨⟨A,C,kb,kc,e,h1,Nat.lt_of_lt_of_le h2 hb.size,(hb.cell (p:=⟨A,0,none⟩) h2).trans h3,(hb.cell (p:=⟨A,1,none⟩) h2).trans h4,h5,Nat.lt_of_lt_of_le h6 hb.size,(hb.cell (p:=⟨kb,0,none⟩) h6).trans h7⟩,t.trans (.of_below hb)⟩
theorem Got.put {l:Nat}{r:Loop}(h:Got D w W v)(hl:w.heap.size≤l)(hr:W.heap[l]?=some (.loop r))(o:Obj):Got D w (W.putObj l o) v:=by
 obtain⟨⟨A,C,kb,kc,e,h1,h2,h3,h4,h5,h6,h7⟩,t⟩:=h;have nA:A≠l:=by rintro rfl;simp[World.cell?,hr]at h3
 have nk:kb≠l:=by rintro rfl;simp[World.cell?,hr]at h7
 refine⟨⟨A,C,kb,kc,e,h1,by simpa using h2,?_,?_,h5,by simpa using h6,?_⟩,?_⟩
 ·exact(World.cell?_of_block (w:=W) (World.putObj_heap_other nA)).trans h3
 ·exact(World.cell?_of_block (w:=W) (World.putObj_heap_other nA)).trans h4
 ·exact(World.cell?_of_block (w:=W) (World.putObj_heap_other nk)).trans h7
 ·exact⟨t.os,t.tape,t.output,by simpa using t.size,fun k hk hn=>(World.putObj_heap_other (by omega)).trans (t.block k hk hn)⟩
theorem Turn.put {r:Nat}{a:World}(h:Turn D a w)(hr:a.heap.size≤r)(o:Obj):Turn D a (w.putObj r o):=
 ⟨h.os,h.tape,h.output,by simpa using h.size,fun k hk hn=>(World.putObj_heap_other (by omega)).trans (h.block k hk hn)⟩
theorem appendSeq_ex (X D g c:Nat)(w:World)(hX:w.heap[X]?=some (boxR D))(hXD:X≠D)(hD:w.heap[D]?=some (rd3 (.slice (some ⟨g,0,none⟩) 15 c) 0))(hc:15≤c)(hg:g<w.heap.size)(hgD:g≠D)(hb:∀(i:Nat) (b:UInt8),exL[i]?=some b→w.cell? ⟨g,0+i,none⟩=some (.int .u8 (b.toNat:Int))):Calls Tryz.prog 119 #[.slice none 0 0,.func (.func 120) #[] #[.pointer (some ⟨X,0,none⟩)]] w fun e w'=>∃v,e= .returned v∧Got D w w' v:=by
 refine(callsIn_wide (n:=9)).1 ?_;refine callsIn_of_wp_marks Tryz.func119 rfl trivial ?_ rfl;simp only[Tryz.ntmps119,List.size_toArray,List.length_cons,List.length_nil,Nat.reduceAdd,Nat.reduceSub,Array.replicate_succ,Array.replicate_zero,List.push_toArray,List.append_toArray,List.nil_append,List.cons_append]
 gi_wp2;generalize hw1:w.alloc (Obj.cells #[Value.slice none 0 0] 28)=w1;have hs1:w1.heap.size=w.heap.size+1:=by rw[←hw1];simp
 have hSB1:w1.heap[w.heap.size]?=some (.cells #[.slice none 0 0] 28 (0,0)):=by rw[←hw1];exact blkNew w _
 have hB1:Below w.heap.size w w1:=by rw[←hw1];exact(Below.refl _ _).alloc (Nat.le_refl _) _
 clear hw1;refine wpIn_rangeFunc ?_;intro fn hfn;generalize hrec:(fun(st:LoopState) (pe:Option Code)=>({state:=st,pending:=pe,fn:=fn,tmps:=#[Value.slice none 0 0,Value.func (Fn.func 120) #[] #[Value.pointer (some {block:=X,off:=0})],Value.pointer (some {block:=w.heap.size,off:=0}),undef,Value.slice none 0 0,undef,Value.func (Fn.func 120) #[] #[Value.pointer (some {block:=X,off:=0})],undef,undef,undef,undef,undef,undef],params:=#[7],assign:=(Code.region 2 #[{dst:=some 5,op:=Op.alloc 36,type:=0,pos:= "iter.go:51",after:=#[],guard:=none},{dst:=none,op:=Op.store 36 (Operand.tmp 5) (Operand.tmp 7),type:=0,pos:= "iter.go:51",after:=#[{on:=0,ground:=Ground.data},{on:=0,ground:=Ground.phase}],guard:=none}] false),body:=(Code.block 1 (Code.region 3 #[{dst:=some 8,op:=Op.load 28 (Operand.tmp 2),type:=28,pos:= "iter.go:52",after:=#[],guard:=none},{dst:=some 9,op:=Op.load 36 (Operand.tmp 5),type:=36,pos:= "iter.go:52",after:=#[],guard:=none},{dst:=some 10,op:=Op.buildSlice 28 1 #[(0,Operand.tmp 9)],type:=28,pos:= "iter.go:52",after:=#[{on:=1,ground:=Ground.data}],guard:=none},{dst:=some 11,op:=Op.call {callee:=Callee.builtin Builtin.append,args:=#[Operand.tmp 8,Operand.tmp 10],argTypes:=#[28,28]},type:=28,pos:= "iter.go:52",after:=#[{on:=0,ground:=Ground.data},{on:=2,ground:=Ground.data}],guard:=none},{dst:=none,op:=Op.store 28 (Operand.tmp 2) (Operand.tmp 11),type:=0,pos:= "iter.go:52",after:=#[{on:=3,ground:=Ground.data},{on:=3,ground:=Ground.chain},{on:=0,ground:=Ground.phase},{on:=1,ground:=Ground.phase},{on:=2,ground:=Ground.phase},{on:=3,ground:=Ground.phase}],guard:=none}] false)),defers:=w1.heap.size}:Loop))=rec
 generalize hW1:(w1.alloc (.deferred (some []))).alloc (.loop (rec .ready none))=W1;have hsW:W1.heap.size=w.heap.size+3:=by rw[←hW1];simp;omega
 have hL1:W1.heap[w1.heap.size+1]?=some (.loop (rec .ready none)):=by
  rw[←hW1];have:=blkNew (w1.alloc (.deferred (some []))) (.loop (rec .ready none));rwa [World.size_alloc]at this
 have hK1:W1.heap[w1.heap.size]?=some (.deferred (some [])):=by
  rw[←hW1];exact(Below.heap_alloc _ _ _ (by simp)).trans (blkNew w1 _)
 have hBW:Below w1.heap.size w1 W1:=by
  rw[←hW1];exact(((Below.refl _ w1).alloc (Nat.le_refl _) _).alloc (by simp) _)
 refine⟨w1.heap.size+1,[{target:= .collected w1.heap.size,args:=#[]}],W1,{target:= .fn (.func 120) #[.pointer (some ⟨X,0,none⟩)],args:=#[.func (.yield (w1.heap.size+1)) #[] #[]]},W1,120,
  #[.func (.yield (w1.heap.size+1)) #[] #[],.pointer (some ⟨X,0,none⟩)],W1,?_,?_,?_,?_,fun _=>by omega,?_⟩
 ·rw[←hW1,←hrec];exact run_enterLoop_outer _ _ _ _ _
 ·simp[resolve,go_sem]
 ·intro f' hf';trivial
 ·have eg:=enters_of Tryz.func120 (by kernel_rfl) rfl;simp[invoke,go_sem]
 ·have lX:=blkLt hX;have lD:=blkLt hD;have hBw:Below w.heap.size w W1:=hB1.trans (hBW.mono (by omega));have hX1:=(hBw.block X lX).trans hX;have hD1:=(hBw.block D lD).trans hD;have hb1:∀(i:Nat) (b:UInt8),exL[i]?=some b→W1.cell? ⟨g,0+i,none⟩=some (.int .u8 (b.toNat:Int)):=fun i b h=>(hBw.cell (p:=⟨g,0+i,none⟩) hg).trans (hb i b h)
  have hSB:W1.heap[w.heap.size]?=some (.cells #[.slice none 0 0] 28 (0,0)):=(hBW.block w.heap.size (by omega)).trans hSB1;clear hW1;refine(next1_ex 8 (w1.heap.size+1) X D g c W1 hX1 hXD hD1 hc (by omega) hgD hb1
   (fun W'=>W'.heap[w1.heap.size+1]?=some (.loop (rec .ready none))∧W'.heap[w1.heap.size]?=some (.deferred (some []))∧∃v,W'.heap[w.heap.size]?=some (.cells #[v] 28 (0,0))∧Got D w W' v) ?hY ?hR).mono ?hdone
  case hR=>
   rintro A B ⟨h1,h2,v,h3,h4⟩ hAB;exact⟨(hAB.block _ (blkLt h1)).trans h1,(hAB.block _ (blkLt h2)).trans h2,v,(hAB.block _ (blkLt h3)).trans h3,h4.later hAB⟩
  case hY=>
   intro W2 kb kc T2 hD2 hk1 hk2 hk3;have l2:W2.heap[w1.heap.size+1]?=some (.loop (rec .ready none)):=(T2.block _ (blkLt hL1) (by omega)).trans hL1;have k2:W2.heap[w1.heap.size]?=some (.deferred (some [])):=(T2.block _ (blkLt hK1) (by omega)).trans hK1;have s2:W2.heap[w.heap.size]?=some (.cells #[.slice none 0 0] 28 (0,0)):=(T2.block _ (by omega) (by omega)).trans hSB;have TW:Turn D w W2:=(Turn.of_below hBw).trans T2;have hX2:=(T2.block X (by omega) hXD).trans hX1;have sz2:=T2.size;clear T2 hL1 hK1 hSB hX1 hD1 hb1 hb hD hX hBw hBW hSB1 hB1;have hyr:=run_yield (P:=Tryz.prog) (args:=#[cmdV kb kc]) l2 (by rw[←hrec];rfl);have hbr:=run_beginRound (P:=Tryz.prog) l2 (by rw[←hrec]);rw[←hrec]at hyr;refine⟨fn,_,_,_,hyr,roundIn_of_wpIn hfn ?_⟩
   have HL2:=hide' l2;have HS2:=hide' s2;have HK2:=hide' k2;clear hyr hbr l2 s2 k2;dsimp only
   unfold cmdV;gi_wp2;generalize hW3:W2.alloc (Obj.cells #[Value.int IntKind.i64 1,Value.slice (some {block:=kb,off:=0}) 1 kc,Value.string {data:=#[]},Value.string {data:=#[]},Value.bool false,Value.int IntKind.i64 0] 36)=W3;have sz3:W3.heap.size=W2.heap.size+1:=by rw[←hW3];simp
   have hB3:Below W2.heap.size W2 W3:=by rw[←hW3];exact(Below.refl _ _).alloc (Nat.le_refl _) _
   have hV3:W3.heap[W2.heap.size]?=some (.cells #[Value.int IntKind.i64 1,Value.slice (some {block:=kb,off:=0}) 1 kc,Value.string {data:=#[]},Value.string {data:=#[]},Value.bool false,Value.int IntKind.i64 0] 36 (0,0)):=by rw[←hW3];exact blkNew W2 _
   have hl3:=(hB3.block _ (blkLt HL2.out)).trans HL2.out;have hs3:=(hB3.block _ (blkLt HS2.out)).trans HS2.out;have hk3':=(hB3.block _ (blkLt HK2.out)).trans HK2.out;have hD3:=(hB3.block _ (blkLt hD2)).trans hD2;have hX3:=(hB3.block _ (blkLt hX2)).trans hX2;have hc3:=(hB3.cell (p:=⟨kb,0,none⟩) hk2).trans hk3;have T3:Turn D w W3:=TW.trans (.of_below hB3);have lSB:=blkLt HS2.out;clear hW3 HL2 HS2 HK2 hD2 hX2 TW hB3 hk3;refine⟨_,run_beginRound hl3 (by rw[←hrec]),?_⟩;have hlt3:=blkLt hl3;generalize hW4:W3.putObj (w1.heap.size+1) (.loop {rec .ready none with state:= .busy})=W4;have oth:∀k,k≠w1.heap.size+1→W4.heap[k]?=W3.heap[k]?:=fun k hk=>by rw[←hW4];exact World.putObj_heap_other hk
   have hl4:W4.heap[w1.heap.size+1]?=some (.loop {rec .ready none with state:= .busy}):=by rw[←hW4];exact World.putObj_heap_same hlt3
   have sz4:W4.heap.size=W3.heap.size:=by rw[←hW4];simp[World.putObj]
   have T4:Turn D w W4:=by rw[←hW4];exact T3.put (by omega) _
   have hs4:=(oth _ (show w.heap.size≠w1.heap.size+1 by omega)).trans hs3;have hk4:=(oth _ (show w1.heap.size≠w1.heap.size+1 by omega)).trans hk3';have hD4:=(oth D (by omega)).trans hD3;have hX4:=(oth X (by omega)).trans hX3;have hV4:=(oth W2.heap.size (by have:=blkLt hl3;omega)).trans hV3;have hc4:W4.cell? ⟨kb,0,none⟩=some (.string ⟨#[97]⟩):=(World.cell?_of_block (w:=W3) (oth kb (by omega))).trans hc3;have q0:=blkCell hs4 0;have qf:=blkFree hs4;have v0:=blkCell hV4 0;have v1:=blkCell hV4 1;have v2:=blkCell hV4 2;have v3:=blkCell hV4 3;have v4:=blkCell hV4 4;have v5:=blkCell hV4 5;simp at q0 v0 v1 v2 v3 v4 v5;have Hl:=hide' hl4;have Hs:=hide' hs4;have Hk:=hide' hk4;have HD4:=hide' hD4;have HX4:=hide' hX4
   have Hc:=hide' hc4;have HT:=hide' T4;have lt4:w.heap.size<W4.heap.size:=by omega
   have lt5:w.heap.size<W4.heap.size+1:=by omega
   have ltV:W2.heap.size<W4.heap.size:=by omega
   have HZ:=hide' (show W4.heap.size=W2.heap.size+1 by omega);have HZ1:=hide' hs1;have HZ2:=hide' sz2;have HZW:=hide' hsW;clear hl4 hs4 hk4 hD4 hX4 hc4 T4 T3 hc3 hX3 hD3 hk3' hs3 hl3 hV3 hV4 oth hW4 sz4 sz3 hs1 sz2 hsW hlt3 lSB;gi_wp2;generalize (Question.appendCap 1 0 36).cut (W4.tape W4.drawn (Question.appendCap 1 0 36))=C;generalize hZ:(#[Value.int IntKind.i64 1,Value.slice (some {block:=kb,off:=0}) 1 kc,Value.string {data:=#[]},Value.string {data:=#[]},Value.bool false,Value.int IntKind.i64 0]++Builtin.zeroCells #[Value.int IntKind.i64 0,Value.slice none 0 0,Value.string {data:=#[]},Value.string {data:=#[]},Value.bool false,Value.int IntKind.i64 0] (C-1))=Z;have hZ0:Z[0]?=some (.int .i64 1):=by rw[←hZ,Array.getElem?_append_left (by simp)];rfl
   have hZ1:Z[1]?=some (.slice (some ⟨kb,0,none⟩) 1 kc):=by rw[←hZ,Array.getElem?_append_left (by simp)];rfl
   clear hZ;have zz:=HZ.out;have z1:=HZ1.out;have z2:=HZ2.out;have z3:=HZW.out;have es:=blkSet (i:=0) Hs.out (.slice (some ⟨W4.heap.size+1,0,none⟩) 1 C);generalize hS5:W4.setCell {block:=w.heap.size,off:=0} (Value.slice (some {block:=W4.heap.size+1,off:=0}) 1 C)=S5 at*;have szS:S5.heap.size=W4.heap.size:=by rw[←hS5];simp
   have TS:Turn D w S5:=by rw[←hS5];exact HT.out.setNew (p:=⟨w.heap.size,0,none⟩) (Nat.le_refl _) _
   have oS:∀k,k≠w.heap.size→S5.heap[k]?=W4.heap[k]?:=fun k hk=>by rw[←hS5];exact Below.heap_setCell W4 ⟨w.heap.size,0,none⟩ _ k hk
   clear hS5;generalize hW5:((S5.alloc (Obj.cells #[Value.int IntKind.i64 1,Value.slice (some {block:=kb,off:=0}) 1 kc,Value.string {data:=#[]},Value.string {data:=#[]},Value.bool false,Value.int IntKind.i64 0] 36)).alloc (Obj.cells Z 36)).drew=W5;have B5:Below S5.heap.size S5 W5:=by rw[←hW5];exact(((Below.refl _ _).alloc (Nat.le_refl _) _).alloc (by simp) _).drew
   have hA5:W5.heap[W4.heap.size+1]?=some (.cells Z 36 (0,0)):=by
    rw[←hW5];have:=blkNew (S5.alloc (Obj.cells #[Value.int IntKind.i64 1,Value.slice (some {block:=kb,off:=0}) 1 kc,Value.string {data:=#[]},Value.string {data:=#[]},Value.bool false,Value.int IntKind.i64 0] 36)) (.cells Z 36 (0,0));rw[World.size_alloc,szS]at this;exact this
   clear hW5;have o5:∀k,k<W4.heap.size→k≠w.heap.size→W5.heap[k]?=W4.heap[k]?:=fun k hk hn=>(B5.block k (by omega)).trans (oS k hn)
   have hl5:=(o5 _ (blkLt Hl.out) (by omega)).trans Hl.out;have hk5:=(o5 _ (blkLt Hk.out) (by omega)).trans Hk.out;have hD5:=(o5 _ (blkLt HD4.out) (by omega)).trans HD4.out;have hX5:=(o5 _ (blkLt HX4.out) (by omega)).trans HX4.out;have hs5:W5.heap[w.heap.size]?=some (.cells #[.slice (some ⟨W4.heap.size+1,0,none⟩) 1 C] 28 (0,0)):=(B5.block _ (by omega)).trans es;have hc5:W5.cell? ⟨kb,0,none⟩=some (.string ⟨#[97]⟩):=(World.cell?_of_block (w:=W4) (o5 kb (by omega) (by omega))).trans Hc.out;have T5:Turn D w W5:=TS.trans (.of_below B5);have s5:=B5.size;have lA:=blkLt hA5;have lk5:=blkLt hl5;refine⟨_,_,run_endRound (P:=Tryz.prog) none hl5,rfl,?_,?_,?_,?_,.slice (some ⟨W4.heap.size+1,0,none⟩) 1 C,?_,?_⟩
   ·exact(World.putObj_heap_other (by omega)).trans hD5
   ·exact(World.putObj_heap_other (by omega)).trans hX5
   ·rw[World.putObj_heap_same lk5,←hrec];rfl
   ·exact(World.putObj_heap_other (by omega)).trans hk5
   ·exact(World.putObj_heap_other (by omega)).trans hs5
   ·refine⟨⟨W4.heap.size+1,C,kb,kc,rfl,by omega,by simpa using lA,?_,?_,by omega,?_,?_⟩,T5.put (by omega) _⟩
    ·rw[blkCell ((World.putObj_heap_other (by omega)).trans hA5)];exact hZ0
    ·rw[blkCell ((World.putObj_heap_other (by omega)).trans hA5)];exact hZ1
    ·rw[World.putObj_size];omega
    ·exact(World.cell?_of_block (w:=W5) (World.putObj_heap_other (show kb≠w1.heap.size+1 by omega))).trans hc5
  case hdone=>
   rintro e W6 ⟨⟨rv,rfl⟩,hl6,hk6,v,hs6,G⟩;have hp:(rec .ready none).pending=none:=by rw[←hrec]
   obtain⟨o7,hend⟩:∃o,(Instr.endLoop (w1.heap.size+1)).run Tryz.prog W6= .ok none (W6.putObj (w1.heap.size+1) o):=by
    have:=run_endLoop (P:=Tryz.prog) hl6 (by rw[←hrec];simp);rw[hp]at this;exact⟨_,this⟩
   refine⟨none,_,hend,?_⟩;have G7:=G.put (l:=w1.heap.size+1) (by omega) hl6 o7;have hs7:=(World.putObj_heap_other (w:=W6) (r:=w1.heap.size+1) (o:=o7) (show w.heap.size≠w1.heap.size+1 by omega)).trans hs6;have hk7:=(World.putObj_heap_other (w:=W6) (r:=w1.heap.size+1) (o:=o7) (show w1.heap.size≠w1.heap.size+1 by omega)).trans hk6;generalize W6.putObj (w1.heap.size+1) o7=W7 at*;have c7:=blkCell hs7 0;simp at c7;have HG:=hide' G7;have HS7:=hide' hs7;have HK7:=hide' hk7;have H1:=hide' hs1;clear G7 hs7 hk7 hs1 hend hl6 hk6 hs6 G hp hL1 hK1 hX1 hD1 hb1 hSB hBw hBW hSB1 hB1 hX hD hb hrec;dsimp only
   gi_wp2;refine⟨by simp,.inl ⟨_,_,rfl,run_takeDeferred HK7.out,?_⟩⟩;refine⟨_,results_tmp rfl _ _ _,v,rfl,?_⟩;obtain⟨⟨A,C,kb,kc,e,h1,h2,h3,h4,h5,h6,h7⟩,t⟩:=HG.out;have hk:=HK7.out;have z1:=H1.out;have nA:A≠w1.heap.size:=by rintro rfl;simp[World.cell?,hk]at h3
   have nk:kb≠w1.heap.size:=by rintro rfl;simp[World.cell?,hk]at h7
   refine⟨⟨A,C,kb,kc,e,h1,by simpa using h2,?_,?_,h5,by simpa using h6,?_⟩,t.put (by omega) _⟩
   ·exact(World.cell?_of_block (w:=W7) (World.putObj_heap_other nA)).trans h3
   ·exact(World.cell?_of_block (w:=W7) (World.putObj_heap_other nA)).trans h4
   ·exact(World.cell?_of_block (w:=W7) (World.putObj_heap_other nk)).trans h7
theorem collect_ex (X D g c:Nat)(w:World)(hX:w.heap[X]?=some (boxR D))(hXD:X≠D)(hD:w.heap[D]?=some (rd3 (.slice (some ⟨g,0,none⟩) 15 c) 0))(hc:15≤c)(hg:g<w.heap.size)(hgD:g≠D)(hb:∀(i:Nat) (b:UInt8),exL[i]?=some b→w.cell? ⟨g,0+i,none⟩=some (.int .u8 (b.toNat:Int))):Calls Tryz.prog 72 #[.func (.func 120) #[] #[.pointer (some ⟨X,0,none⟩)]] w fun e w'=>∃v,e= .returned v∧Got D w w' v:=by
 have H:=hide' (appendSeq_ex X D g c w hX hXD hD hc hg hgD hb);clear hX hD hb;go_enter Tryz.func72,Tryz.ntmps72;go_wp2_with fail
 go_at_call 119;refine H.out.mono ?_;rintro e w1 ⟨v,rfl,G⟩;have HG:=hide' G;clear G;go_wp2;go_ret;exact⟨v,rfl,HG.out⟩
theorem next_ex (D:Nat)(w:World)(hD:w.heap[D]?=some (rd3 (.slice none 0 0) 0)):Calls Tryz.prog 73 #[.pointer (some ⟨D,0,none⟩),.string ⟨#[42,50,10,36,51,10,103,101,116,10,36,49,10,97,10]⟩] w fun e w'=>e= .returned (.func (.func 120) #[] #[.pointer (some ⟨w.heap.size,0,none⟩)])∧w'.heap[w.heap.size]?=some (boxR D)∧(∃g c,15≤c∧w'.heap[D]?=some (rd3 (.slice (some ⟨g,0,none⟩) 15 c) 0)∧g<w'.heap.size∧g≠D∧(∀(i:Nat) (b:UInt8),exL[i]?=some b→w'.cell? ⟨g,0+i,none⟩=some (.int .u8 (b.toNat:Int))))∧Turn D w w':=by
 have hlt:=blkLt hD;have hD1:=(Below.heap_alloc w (boxR D) D hlt).trans hD;have H:=hide' (take_ex D (w.alloc (boxR D)) hD1);have HD:=hide' hD;clear hD hD1;go_enter Tryz.func73,Tryz.ntmps73;go_wp2_with fail
 go_at_call 58;refine H.out.mono ?_;rintro e w1 ⟨rfl,⟨c,hc,h1⟩,h2,h3,T⟩;have hb1:=(T.block w.heap.size (by simp) (by omega)).trans (blkNew w (boxR D));have HH:=hide' (And.intro h1 (And.intro h2 (And.intro h3 (And.intro T hb1))));clear h1 h2 h3 T hb1;go_wp2;go_ret;obtain⟨h1,h2,h3,T,hb1⟩:=HH.out;rw[World.size_alloc]at h1 h2 h3;refine⟨rfl,hb1,⟨w.heap.size+1,c,hc,h1,h2,by omega,h3⟩,?_⟩;exact(Turn.of_below ((Below.refl _ _).alloc (Nat.le_refl _) _)).trans T
theorem feed_ex (D:Nat)(w:World)(hD:w.heap[D]?=some (rd3 (.slice none 0 0) 0)):Calls Tryz.prog 44 #[.pointer (some ⟨D,0,none⟩),.string ⟨#[42,50,10,36,51,10,103,101,116,10,36,49,10,97,10]⟩] w fun e w'=>∃v,e= .returned v∧Got D w w' v:=by
 have hlt:=blkLt hD;have H:=hide' (next_ex D w hD);clear hD;go_enter Tryz.func44,Tryz.ntmps44;go_wp2_with fail
 go_at_call 73;refine H.out.mono ?_;rintro e w1 ⟨rfl,hX,⟨g,c,hc,hD1,hg,hgD,hb⟩,T⟩;have H2:=hide' (collect_ex w.heap.size D g c w1 hX (by omega) hD1 hc hg hgD hb);have HT:=hide' T;clear hX hD1 hb T;go_wp2_with fail
 go_at_call 72;refine H2.out.mono ?_;rintro e w2 ⟨v,rfl,G⟩;have HG:=hide' G;clear G;go_wp2;go_ret;refine⟨v,rfl,?_⟩;obtain⟨⟨A,C,kb,kc,e,h1,h2,h3,h4,h5,h6,h7⟩,t⟩:=HG.out;have:=HT.out.size;exact⟨⟨A,C,kb,kc,e,by omega,h2,h3,h4,by omega,h6,h7⟩,HT.out.trans t⟩
end Go.Proofs.YtlonjggfnleolaaGreatDoor
namespace Go.Proofs.YtlonjggfnleolaaGreatDoor
open Go.RowKit
set_option linter.unusedVariables false
set_option maxHeartbeats 2000000
set_option maxRecDepth 20000
theorem keyA:keyB ⟨#[97]⟩=true:=by decide+kernel
theorem words_any (w:World):Calls Tryz.prog 16 #[] w fun e w'=>e= .returned (.bool true)∧Below w.heap.size w w':=by
 have ho:ownerN 1 1 ⟨#[97]⟩=0:=by have:=ownerN_lt 1 1 ⟨#[97]⟩ (by omega);omega
 have HO:=hide' ho;clear ho;go_enter Tryz.func16,Tryz.ntmps16;go_wp2_with fail
 go_at_call 21;refine(ask_words w.heap.size _ (by simp) (by go_simp)).mono ?_;rintro e w1 ⟨rfl,hb1⟩;have q1:Below w.heap.size w w1:=((Below.refl _ _).alloc (Nat.le_refl _) _).trans (hb1.mono (by simp));have HQ1:=hide' q1;clear q1 hb1;go_wp2_with fail
 go_at_call 23;refine(owner_ok 1 1 ⟨#[97]⟩ _ (by omega) (by omega) (by omega) (by omega) keyA (by decide)).mono ?_;rintro e w2 ⟨rfl,hw2⟩;subst hw2;rw[HO.out];go_wp2_with fail
 go_at_call 43;refine(decoder3 _).mono ?_;rintro e w3 ⟨rfl,hw3⟩;have hD3:w3.heap[w2.heap.size]?=some (rd3 (.slice none 0 0) 0):=by rw[hw3];exact blkNew w2 _
 have hB3:Below w.heap.size w w3:=by rw[hw3];exact HQ1.out.alloc HQ1.out.size _
 have hle:w.heap.size≤w2.heap.size:=HQ1.out.size;have hlt3:=blkLt hD3;clear hw3;have H3:=hide' (And.intro hD3 hB3);clear hD3 hB3;go_wp2_with fail
 go_at_call 44;refine(feed_ex w2.heap.size w3 H3.out.1).mono ?_;rintro e w4 ⟨v,rfl,⟨⟨A,C,kb,kc,rfl,h1,h2,h3,h4,h5,h6,h7⟩,t⟩⟩;have hB4:Below w.heap.size w w4:=H3.out.2.trans (t.below hle (by omega));have HB4:=hide' hB4;clear hB4 t;go_wp2;go_ret;exact⟨rfl,HB4.out⟩
end Go.Proofs.YtlonjggfnleolaaGreatDoor
namespace Go.Proofs.YtlonjggfnleolaaGreatDoor
open Go.RowKit Go.Shelf Go.Conc
set_option linter.unusedVariables false
variable {W:World}{C R ch t win:Nat}{d:Int}
def newV (C R ch t:Nat):CliV:=⟨newI C R ch t,[]⟩
def newQ (d:Int):CliQ:=⟨d,st0,[],[]⟩
theorem CliAt.new (hd:dT d t)(hR:W.heap[R]?=some (rdO t (.slice none 0 0) 0 false false))(hch:W.heap[ch]?=some (.chan win #[] false 0 0 false))(hC:W.heap[C]?=some (clO R ch (.slice none 0 0) (.pointer none) (.slice none 0 0))):CliAt W win (newV C R ch t) (newQ d):=by
 have h:=CliOk.new (win:=win) hd hR hch hC;refine⟨⟨h.blk,h.rd,h.di,h.chan,h.row,h.ql,h.bpv,h.bld,h.ab⟩,rfl,⟨rfl,fun i v x hv=>(by simp[newV]at hv),by simp[newV,feetQ]⟩,fun x hx=>(by simp[newQ]at hx)⟩
theorem JunQ.opened {w:World}{X sv pt g sc:Nat}{cv:Value}{cis:List CliV}{cs:List CliQ}{vs:List SrvV}{ss:List SrvQ}(h:JunQ w X sv pt win g sc cv cis cs vs ss){g2 cap2:Nat}(hn:cis.length<4)(hd:dT d t)(k:Chg (X::cv.ownBlock.toList) w W)(hX:W.heap[X]?=some (juO sv pt win (.slice (some ⟨g2,0,none⟩) (cis.length+1) cap2) (.slice (some ⟨g,0,none⟩) sv sc)))(hrow:W.ownsRow 0 116 1 (.slice (some ⟨g2,0,none⟩) (cis.length+1) cap2) (cis.length+1) (cis.map (fun v=>ptrV v.k.C)++[.pointer (some ⟨C,0,none⟩)]))(hg2:cv.ownBlock=some g2∨w.heap.size≤g2)(lC:w.heap.size≤C)(lR:w.heap.size≤R)(lch:w.heap.size≤ch)(hR:W.heap[R]?=some (rdO t (.slice none 0 0) 0 false false))(hch:W.heap[ch]?=some (.chan win #[] false 0 0 false))(hC:W.heap[C]?=some (clO R ch (.slice none 0 0) (.pointer none) (.slice none 0 0))):JunQ W X sv pt win g sc (.slice (some ⟨g2,0,none⟩) (cis.length+1) cap2) (cis++[newV C R ch t]) (cs++[newQ d]) vs ss∧Chg (footQ X cv cis vs) w W∧Later w (footQ X cv cis vs) (footQ X (.slice (some ⟨g2,0,none⟩) (cis.length+1) cap2) (cis++[newV C R ch t]) vs):=by
 have hnew:=CliAt.new hd hR hch hC;have hfoot:∀b∈(newV C R ch t).foot,w.heap.size≤b:=fun b hb=>by
  have hb':b∈[C,ch,R]:=by
   simpa [CliV.foot,newV,newI,CliI.foot,Value.ownBlock,feetQ]using hb
  simp at hb';rcases hb' with e|e|e<;>omega
 have nM:∀(b T:Nat) (Z:Array Value) (f:Nat×Nat),w.heap[b]?=some (.cells Z T f)→T≠129→T≠116→b∉X::cv.ownBlock.toList:=fun b T Z f hZ h1 h2 hm=>by
  rcases List.mem_cons.1 hm with e|e
  ·have hb:=h.blk;unfold juO at hb;rw[←e,hZ]at hb;simp at hb;exact h1 hb.2.1
  ·obtain⟨cur,hc⟩:=ownsRow_blk h.row (optMem e);rw[hZ]at hc;simp at hc;exact h2 hc.2.1
 have nM2:∀(b:Nat) (o:Obj),w.heap[b]?=some o→(∀Z T f,o≠ .cells Z T f)→b∉X::cv.ownBlock.toList:=fun b o ho h1 hm=>by
  rcases List.mem_cons.1 hm with e|e
  ·have hb:=h.blk;unfold juO at hb;rw[←e,ho]at hb;exact h1 _ _ _ (Option.some.inj hb)
  ·obtain⟨cur,hc⟩:=ownsRow_blk h.row (optMem e);rw[ho]at hc;exact h1 _ _ _ (Option.some.inj hc)
 have old:∀(j:Nat) (u:CliV),cis[j]?=some u→∀b∈u.foot,b<w.heap.size:=fun j u hu b hb=>by
  obtain⟨s,hs,hok⟩:=h.get hu;exact hok.old b hb
 have kc:∀(j:Nat) (u:CliV),cis[j]?=some u→∀b∈u.foot,W.heap[b]?=w.heap[b]?:=fun j u hu b hb=>by
  obtain⟨s,hs,hok⟩:=h.get hu;rcases hok.kind b hb with⟨Z,T,f,h1,h2⟩|⟨cap,buf,cl,a,c,tm,h1⟩
  ·exact k.block b (blkLt h1) (nM b T Z f h1 (by rcases h2 with e|e|e|e|e|e|e<;>(subst e;decide)) (by rcases h2 with e|e|e|e|e|e|e<;>(subst e;decide)))
  ·exact k.block b (blkLt h1) (nM2 b _ h1 (fun Z T f e=>by cases e))
 have hsrv:SrvsAt W vs ss:=h.srv.keep (fun b hb=>by
  obtain⟨j,v,hv,hbv⟩:=mem_feetS.1 hb;obtain⟨v',s,hv',hs,hok⟩:=h.srv.get (List.getElem?_eq_some_iff.1 hv).1;rw[hv]at hv';cases hv';rcases hok.kind b hbv with⟨Z,T,f,h1,h2⟩|⟨es,c,h1⟩
  ·exact k.block _ (blkLt h1) (nM _ _ _ _ h1 (by rcases h2 with e|e<;>(subst e;decide)) (by rcases h2 with e|e<;>(subst e;decide)))
  ·exact k.block _ (blkLt h1) (nM2 _ _ h1 (fun Z T f e=>by cases e)))
 obtain⟨Zg,z1,z2⟩:=h.gb;have hcut:∀(j:Nat) (u:CliV),(cis++[newV C R ch t])[j]?=some u→(j<cis.length∧cis[j]?=some u)∨(j=cis.length∧u=newV C R ch t):=fun j u hu=>by
  by_cases hj:j<cis.length
  ·rw[List.getElem?_append_left hj]at hu;exact .inl ⟨hj,hu⟩
  ·have hj2:=(List.getElem?_eq_some_iff.1 hu).1;simp at hj2;have hj3:j=cis.length:=by omega
   subst hj3;rw[List.getElem?_append_right (Nat.le_refl _)]at hu;simp at hu;exact .inr ⟨rfl,hu.symm⟩
 refine⟨⟨hX,⟨Zg,k.keep z1 (nM _ _ _ _ z1 (by decide) (by decide)),z2⟩,h.len,h.s1,h.s4,h.sc_,h.pt_,h.w6,?_,by simp[h.cl],by rw[List.length_append,List.length_singleton];omega,fun i v s hv hs=>?_,fun i j v u hij hv hu b hb hb2=>?_,hsrv,fun i v hv b hb hm=>?_,fun o u hu=>?_,fun s hs=>?_⟩,k.more (fun b hb=>?_),fun b hb=>?_⟩
 ·rw[List.length_append,List.length_singleton,List.map_append];exact hrow
 ·rcases hcut i v hv with⟨hi,hv'⟩|⟨hi,rfl⟩
  ·rw[List.getElem?_append_left (by rw[←h.cl];exact hi)]at hs;have hok:=h.cli i v s hv' hs;exact hok.keep (fun b hb=>kc i v hv' b hb)
  ·rw[List.getElem?_append_right (by rw[hi,h.cl];exact Nat.le_refl _)]at hs;rw[hi,h.cl]at hs;simp at hs;rw[←hs];exact hnew
 ·rcases hcut i v hv with⟨hi,hv'⟩|⟨hi,rfl⟩
  ·rcases hcut j u hu with⟨hj,hu'⟩|⟨hj,rfl⟩
   ·exact h.cap i j v u hij hv' hu' b hb hb2
   ·have h1:=old i v hv' b hb;have h2:=hfoot b hb2;omega
  ·rcases hcut j u hu with⟨hj,hu'⟩|⟨hj,rfl⟩
   ·have h1:=old j u hu' b hb2;have h2:=hfoot b hb;omega
   ·omega
 ·rcases hcut i v hv with⟨hi,hv'⟩|⟨hi,rfl⟩
  ·exact h.ap i v hv' b hb hm
  ·have h1:=h.srv.old b hm;have h2:=hfoot b hb;omega
 ·have e:opnJ (cis++[newV C R ch t]) (cs++[newQ d])=opnJ cis cs:=by
   rw[opnJ_app _ _ _ _ h.cl];show opnJ cis cs++opnJ [newV C R ch t] [newQ d]=_;rw[show opnJ [newV C R ch t] [newQ d]=[]from rfl,List.append_nil]
  rw[e];exact h.mr o u hu
 ·rcases List.mem_append.1 hs with hs|hs
  ·exact h.wl s hs
  ·simp at hs;rw[hs];exact Nat.zero_le _
 ·unfold footQ;rcases List.mem_cons.1 hb with e|e
  ·rw[e];exact List.mem_cons_self ..
  ·exact List.mem_cons_of_mem _ (List.mem_append.2 (.inl e))
 ·unfold footQ at hb⊢;rcases List.mem_cons.1 hb with e|hb
  ·exact .inl (by rw[e];exact List.mem_cons_self ..)
  rcases List.mem_append.1 hb with hb|hb
  ·have e':b=g2:=by simpa [Value.ownBlock]using hb
   rcases hg2 with e2|e2
   ·exact .inl (List.mem_cons_of_mem _ (List.mem_append.2 (.inl (by rw[e2,e'];simp))))
   ·exact .inr (by omega)
  rcases List.mem_append.1 hb with hb|hb
  ·obtain⟨j,u,hu,hbu⟩:=mem_civ.1 hb;rcases hcut j u hu with⟨hj,hu'⟩|⟨hj,rfl⟩
   ·exact .inl (List.mem_cons_of_mem _ (List.mem_append.2 (.inr (List.mem_append.2 (.inl (mem_civ.2 ⟨j,u,hu',hbu⟩))))))
   ·exact .inr (hfoot b hbu)
  ·exact .inl (List.mem_cons_of_mem _ (List.mem_append.2 (.inr (List.mem_append.2 (.inr hb)))))
set_option maxHeartbeats 1000000
set_option maxRecDepth 100000
theorem openQ_yes {w:World}{X sv pt win g sc:Nat}{cv:Value}{cis:List CliV}{cs:List CliQ}{vs:List SrvV}{ss:List SrvQ}(h:JunQ w X sv pt win g sc cv cis cs vs ss)(d:Int)(hd:d=1∨d=2∨d=3)(hn:cis.length<4)(hwin:win≤6):Calls Tryz.prog 54 #[.pointer (some ⟨X,0,none⟩),.int .i64 d] w fun e w'=>e= .returned (.tuple #[.int .i64 (cis.length:Int),.int .i64 0])∧∃(cv':Value) (v:CliV),JunQ w' X sv pt win g sc cv' (cis++[v]) (cs++[newQ d]) vs ss∧Chg (footQ X cv cis vs) w w'∧Later w (footQ X cv cis vs) (footQ X cv' (cis++[v]) vs):=by
 obtain⟨a,c,rfl⟩:=h.cvLen;obtain⟨_,_,c2,c3,_,cf⟩:=juCells h.blk;have hlt:=blkLt h.blk;have HN:=hide' (decoder_any d w hd);have HD:=hide' (dT_ty hd);have hB:Below w.heap.size w (w.alloc (rdO (tyOf d) (.slice none 0 0) 0 false false)):=(Below.refl _ _).alloc (Nat.le_refl _) _;have d3:=(hB.cell (p:=⟨X,3,none⟩) hlt).trans c3;have d2:=(hB.cell (p:=⟨X,2,none⟩) hlt).trans c2;have df:=(hB.frozen (p:=⟨X,3,none⟩) hlt).trans (cf 3);have hlt1:X<(w.alloc (rdO (tyOf d) (.slice none 0 0) 0 false false)).heap.size:=Nat.lt_of_lt_of_le hlt hB.size;have hn4:¬(cis.length:Int)=4:=by omega
 have HRow:Hid (∀W,Below w.heap.size w W→W.ownsRow 0 116 1 (.slice a cis.length c) cis.length (cis.map (fun v=>ptrV v.k.C))):=fun W hW=>ownsRow_other h.row (fun gg hg=>by obtain⟨cur,hc⟩:=ownsRow_blk h.row hg;exact hW.block gg (blkLt hc))
 have HNew:Hid (∀W,Calls Tryz.prog 86 #[.pointer (some ⟨w.heap.size,0,none⟩),.int .i64 (win:Int)] W fun e w'=>e= .returned (.pointer (some ⟨W.heap.size+1,0,none⟩))∧w'=(W.alloc (.chan win #[] false 0 0 false)).alloc (clO w.heap.size W.heap.size (.slice none 0 0) (.pointer none) (.slice none 0 0))):=fun W=>newClient_any w.heap.size win W hwin
 obtain⟨i1,hi,hz0,hz1,hz2⟩:=info116;have HI:=hide' (And.intro hi (And.intro hz0 (And.intro hz1 hz2)));have HB:=hide' hB;have HH:=hide' h;have hXg:(Value.slice a cis.length c).ownBlock≠some X:=fun e=>by
  obtain⟨cur,hc⟩:=ownsRow_blk h.row e;have hb:=h.blk;unfold juO at hb;rw[hb]at hc;cases hc
 have HXG:=hide' hXg;clear hB c3 c2 cf h hi hz0 hz1 hz2 hd hXg;generalize hw1:w.alloc (rdO (tyOf d) (.slice none 0 0) 0 false false)=w1 at*;have HW1:=hide' hw1;clear hw1;go_enter Tryz.func54,Tryz.ntmps54;go_wp2_with fail
 go_at_call 43;refine HN.out.mono ?_;rintro e w2 ⟨rfl,hw2⟩;subst hw2;go_wp2_with fail
 go_region_law (first
  |(go_simp;go_at_call 86;refine(HNew.out _).mono ?_;rintro e w3 ⟨rfl,hw3⟩;have hb3:Below w2.heap.size w2 w3:=(by rw[hw3];exact((Below.refl _ w2).drew.alloc (Nat.le_refl _) _).alloc (by simp) _);have HW3:=hide' (And.intro hw3 hb3);have e3:=(hb3.cell (p:=⟨X,3,none⟩) hlt1).trans d3;have e2:=(hb3.cell (p:=⟨X,2,none⟩) hlt1).trans d2;have ef:=(hb3.frozen (p:=⟨X,3,none⟩) hlt1).trans df;have hlt3:=Nat.lt_of_lt_of_le hlt1 hb3.size;clear hw3 hb3)
  |(refine step_append_lies _ (by rfl) _ _ _ (by rfl) 0 116 i1 (.pointer none) 1 8 Tryz.underlying126 HI.out.1 HI.out.2.1 HI.out.2.2.1 HI.out.2.2.2 (by rfl) (by omega) (.slice a cis.length c) cis.length (cis.map (fun v=>ptrV v.k.C)) (by rfl) (HRow.out _ ((HB.out.trans (HW3.out.2.mono HB.out.size)).alloc (Nat.le_trans HB.out.size HW3.out.2.size) _)) ⟨w3.heap.size,0,none⟩ 1 1 [.pointer (some ⟨w2.heap.size+1,0,none⟩)] (by rfl) (by rfl) (World.news_of_block (cs:=#[.pointer (some ⟨w2.heap.size+1,0,none⟩)]) (blkNew w3 _)) (fun u hu=>by simp at hu;subst hu;rfl) (by omega) (by unfold maxLen;omega) (by omega) (Nat.zero_le _) _ rfl ?_;intro g2 cap2 wa hown hgrow hat hlta;have hcA:wa.cell? ⟨X,3,none⟩=some (.slice a cis.length c):=(hgrow.cell_far ⟨X,3,none⟩ (by simp;omega) (fun e=>HXG.out e.symm)).trans ((World.cell?_of_block (w:=w3) (Below.heap_alloc w3 _ _ hlt3)).trans e3);have hfA:wa.frozen? ⟨X,3,none⟩=false:=(hgrow.frozen_far ⟨X,3,none⟩ (by simp;omega) (fun e=>HXG.out e.symm)).trans ((World.frozen?_of_block (w:=w3) (Below.heap_alloc w3 _ _ hlt3)).trans ef);have HG:=hide' (And.intro hown (And.intro hgrow (And.intro hat hlta)));clear hown hgrow hat)
  |fail)
 all_goals
  have hX3:w3.heap[X]?=some (juO sv pt win (.slice a cis.length c) (.slice (some ⟨g,0,none⟩) sv sc)):=(HW3.out.2.block X hlt1).trans ((HB.out.block X hlt).trans HH.out.blk)
  have keep:∀(b:Nat) (o:Obj),w3.heap[b]?=some o→(Value.slice a cis.length c).ownBlock≠some b→wa.heap[b]?=some o:=fun b o hb hn=>(HG.out.2.1.block b (by rw[World.size_alloc];have:=blkLt hb;omega) (fun e=>hn e.symm)).trans ((Below.heap_alloc _ _ _ (blkLt hb)).trans hb)
  have hXa:=keep X _ hX3 HXG.out
  have hXf:=blkSet (i:=3) hXa (.slice (some ⟨g2,0,none⟩) (cis.length+1) cap2)
  have hcv:∀b,(Value.slice a cis.length c).ownBlock=some b→b<w.heap.size:=fun b e=>by
   obtain⟨cur,hc⟩:=ownsRow_blk HH.out.row e;exact blkLt hc
  have keep2:∀(b:Nat) (o:Obj),w3.heap[b]?=some o→w.heap.size≤b→(wa.setCell ⟨X,3,none⟩ (.slice (some ⟨g2,0,none⟩) (cis.length+1) cap2)).heap[b]?=some o:=fun b o hb hle=>(Below.heap_setCell wa ⟨X,3,none⟩ _ b (by show b≠X;omega)).trans (keep b o hb (fun e=>by have:=hcv b e;omega))
  have hw2s:w2.heap.size=w.heap.size+1:=by rw[←HW1.out];simp
  have hR2:w2.heap[w.heap.size]?=some (rdO (tyOf d) (.slice none 0 0) 0 false false):=by rw[←HW1.out];exact blkNew w _
  have hR3:=(HW3.out.2.block w.heap.size (by omega)).trans hR2
  have hch3:w3.heap[w2.heap.size]?=some (.chan win #[] false 0 0 false):=by
   rw[HW3.out.1,Below.heap_alloc _ _ _ (by simp)];exact blkNew w2.drew _
  have hC3:w3.heap[w2.heap.size+1]?=some (clO w.heap.size w2.heap.size (.slice none 0 0) (.pointer none) (.slice none 0 0)):=by
   rw[HW3.out.1];exact hs_new (by simp)
  have hk3:Chg (X::(Value.slice a cis.length c).ownBlock.toList) w (w3.alloc (.cells #[.pointer (some ⟨w2.heap.size+1,0,none⟩)] 116)):=Chg.of_below ((HB.out.trans (HW3.out.2.mono HB.out.size)).alloc (Nat.le_trans HB.out.size HW3.out.2.size) _)
  have hkf:Chg (X::(Value.slice a cis.length c).ownBlock.toList) w (wa.setCell ⟨X,3,none⟩ (.slice (some ⟨g2,0,none⟩) (cis.length+1) cap2)):=(hk3.grown HG.out.2.1 (fun b e=> .inl (by simp[e]))).set (.inl (by simp)) _
  have sz3:=HW3.out.2.size
  have hrowf:(wa.setCell ⟨X,3,none⟩ (.slice (some ⟨g2,0,none⟩) (cis.length+1) cap2)).ownsRow 0 116 1 (.slice (some ⟨g2,0,none⟩) (cis.length+1) cap2) (cis.length+1) (cis.map (fun v=>ptrV v.k.C)++[.pointer (some ⟨w2.heap.size+1,0,none⟩)]):=ownsRow_other HG.out.1 (fun gg hg=>by
   cases hg;refine Below.heap_setCell wa ⟨X,3,none⟩ _ g2 (fun e=>?_);obtain⟨cur,hc⟩:=ownsRow_blk HG.out.1 rfl;rw[show g2=X from e,hXa]at hc;unfold juO at hc;cases hc)
  have hfin:=HH.out.opened hn HD.out hkf hXf hrowf (by
   rcases HG.out.2.2.1 with e|e
   ·exact .inl e
   ·rw[World.size_alloc]at e;exact .inr (by omega)) (by omega) (Nat.le_refl _) (by omega) (keep2 _ _ hR3 (Nat.le_refl _)) (keep2 _ _ hch3 (by omega)) (keep2 _ _ hC3 (by omega))
  have HF:=hide' hfin
  have f3:=(juCells (cv:= .slice (some ⟨g2,0,none⟩) (cis.length+1) cap2) hXf).2.2.2.1
  have hlf:=blkLt hXf
  clear hfin hXf hcA hfA
  generalize wa.setCell ⟨X,3,none⟩ (.slice (some ⟨g2,0,none⟩) (cis.length+1) cap2)=wf at*
  clear hrowf hkf hk3 hC3 hch3 hR3 hR2 hw2s keep2 hcv hXa keep hX3
  go_wp2
  go_ret2
  exact⟨by simp,_,_,HF.out⟩
variable {w':World}{g sc i:Nat}{cv:Value}{cis:List CliV}{vs:List SrvV}{st':List CliQ×List SrvQ}{s:CliQ}
def JPl (W:World)(X sv pt win T:Nat)(st:List CliQ×List SrvQ)(M:List Nat):Prop:=
 ∃(g sc:Nat) (cv:Value) (cis:List CliV) (vs:List SrvV),JunQ W X sv pt win g sc cv cis st.1 vs st.2∧BdJ win T st.1 st.2∧M=g::footQ X cv cis vs
section
variable {W W':World}{X sv pt win T:Nat}{st:List CliQ×List SrvQ}{M:List Nat}
theorem JPl.keep (h:JPl W X sv pt win T st M)(k:∀b∈M,W'.heap[b]?=W.heap[b]?):JPl W' X sv pt win T st M:=by
 obtain⟨g,sc,cv,cis,vs,h1,h2,h3⟩:=h;refine⟨g,sc,cv,cis,vs,h1.keep (fun b hb=>k b ?_),h2,h3⟩;rw[h3];rcases hb with e|e
 ·exact List.mem_cons_of_mem _ e
 ·rw[e];exact List.mem_cons_self
theorem JPl.old (h:JPl W X sv pt win T st M):∀b∈M,b<W.heap.size:=by
 obtain⟨g,sc,cv,cis,vs,h1,h2,h3⟩:=h;intro b hb;rw[h3]at hb;rcases List.mem_cons.1 hb with e|e
 ·obtain⟨Zg,g1,_⟩:=h1.gb;rw[e];exact blkLt g1
 ·exact h1.old b e
theorem JPl.below (h:JPl W X sv pt win T st M)(hb:Below W.heap.size W W'):JPl W' X sv pt win T st M:=h.keep (fun b hm=>hb.block b (h.old b hm))
def JTo (W W':World)(X sv pt win T:Nat)(st:List CliQ×List SrvQ)(M:List Nat):Prop:=∃M',JPl W' X sv pt win T st M'∧Chg M W W'∧Later W M M'
theorem jto_of {cv':Value}{cis':List CliV}{vs':List SrvV}(h:JunQ w' X sv pt win g sc cv' cis' st'.1 vs' st'.2)(hb:BdJ win T st'.1 st'.2)(k:Chg (footQ X cv cis vs) W w')(l:Later W (footQ X cv cis vs) (footQ X cv' cis' vs')):JTo W w' X sv pt win T st' (g::footQ X cv cis vs):=
 ⟨_,⟨g,sc,cv',cis',vs',h,hb,rfl⟩,k.more (fun b hb=>List.mem_cons_of_mem _ hb),fun b hb=>by
  rcases List.mem_cons.1 hb with e|e
  ·exact .inl (by rw[e];exact List.mem_cons_self)
  ·rcases l b e with h1|h1
   ·exact .inl (List.mem_cons_of_mem _ h1)
   ·exact .inr h1⟩
theorem say_pl (h:JPl W X sv pt win T st M)(hs:st.1[i]?=some s)(piece:ByteArray)(hT:T+4000*piece.size+5000≤100000000000):Calls Tryz.prog 28 #[.pointer (some ⟨X,0,none⟩),.int .i64 (i:Int),.string piece] W fun e w'=>e= .returned (.int .i64 0)∧JTo W w' X sv pt win (T+4000*piece.size) (saidJ sv pt win i piece.data.toList st) M:=by
 obtain⟨g,sc,cv,cis,vs,h1,h2,rfl⟩:=h;obtain⟨v,hv,_⟩:=h1.getS hs;have htk:=takeS_len s.st piece.data.toList;rw[len_size]at htk;have ht1:=h2.told s (List.mem_of_getElem? hs);have hbd:BdJ win (T+4000*piece.size) (st.1.set i (tookQ s piece.data.toList)) st.2:=by
  refine⟨fun s' hs'=>?_,fun s' hs'=>?_,fun u hu=>?_⟩
  ·rcases List.mem_or_eq_of_mem_set hs' with e|e
   ·have:=h2.told s' e;omega
   ·rw[e];show s.told.length+1000*(s.qs.length+(takeS s.st piece.data.toList).held.length)≤T+4000*piece.size;omega
  ·rcases List.mem_or_eq_of_mem_set hs' with e|e
   ·exact h2.wl s' e
   ·rw[e];exact h2.wl s (List.mem_of_getElem? hs)
  ·have h3:=h2.srv u hu;refine⟨h3.1,?_⟩;have h4:=h3.2;rw[heldSum_at hs]at h4;rw[heldSum_set hs];show u.sent.length+4000*(heldSum (st.1.take i)+((takeS s.st piece.data.toList).held.length+heldSum (st.1.drop (i+1))))≤T+4000*piece.size;omega
 refine(sayQ_yes h1 hv hs piece hT hbd (by omega)).mono ?_;rintro e w' ⟨rfl,cis',vs',a1,_,a3,a4,a5⟩;exact⟨rfl,jto_of a1 a3 a4 a5⟩
theorem told_pl (h:JPl W X sv pt win T st M)(hs:st.1[i]?=some s):Calls Tryz.prog 26 #[.pointer (some ⟨X,0,none⟩),.int .i64 (i:Int)] W fun e w'=>e= .returned (.tuple #[.string (mkB s.told),.int .i64 0])∧JTo W w' X sv pt win T st M:=by
 obtain⟨g,sc,cv,cis,vs,h1,h2,rfl⟩:=h;obtain⟨v,hv,_⟩:=h1.getS hs;refine(toldQ_yes h1 hv hs).mono ?_;rintro e w' ⟨rfl,a1,a2⟩;exact⟨rfl,jto_of a1 h2 a2 (Later.refl _ _)⟩
theorem sent_pl (h:JPl W X sv pt win T st M){s:SrvQ}(hs:st.2[i]?=some s):Calls Tryz.prog 30 #[.pointer (some ⟨X,0,none⟩),.int .i64 (i:Int)] W fun e w'=>e= .returned (.tuple #[.string (mkB s.sent),.int .i64 0])∧JTo W w' X sv pt win T st M:=by
 obtain⟨g,sc,cv,cis,vs,h1,h2,rfl⟩:=h;obtain⟨v,hv⟩:∃v,vs[i]?=some v:=⟨_,List.getElem?_eq_getElem (by rw[h1.srv.len];exact(List.getElem?_eq_some_iff.1 hs).1)⟩
 refine(sentQ_yes h1 hv hs).mono ?_;rintro e w' ⟨rfl,a1,a2⟩;exact⟨rfl,jto_of a1 h2 a2 (Later.refl _ _)⟩
theorem jto_lis (h:LisTo W w' X sv pt win g sc cv T cis.length (footQ X cv cis vs) st'):JTo W w' X sv pt win T st' (g::footQ X cv cis vs):=by
 obtain⟨cis',vs',a1,_,a3,a4,a5⟩:=h;exact jto_of a1 a3 a4 a5
theorem answer_pl (h:JPl W X sv pt win T st M){o:Nat}{s:SrvQ}(hs:st.2[o]?=some s)(piece:ByteArray)(hup:s.up=true)(hT:T+5000≤100000000000)(hl:2*s.held.length+piece.size≤140737488355328):Calls Tryz.prog 32 #[.pointer (some ⟨X,0,none⟩),.int .i64 (o:Int),.string piece] W fun e w'=>e= .returned (.int .i64 0)∧JTo W w' X sv pt win T (answeredJ sv pt win o piece.data.toList st) M:=by
 obtain⟨g,sc,cv,cis,vs,h1,h2,rfl⟩:=h;refine(answer_up h1 hs piece hup hT h2 hl).mono ?_;rintro e w' ⟨rfl,a⟩;exact⟨rfl,jto_lis a⟩
theorem open_pl (h:JPl W X sv pt win T st M)(d:Int)(hd:d=1∨d=2∨d=3)(hn:st.1.length<4):Calls Tryz.prog 54 #[.pointer (some ⟨X,0,none⟩),.int .i64 d] W fun e w'=>e= .returned (.tuple #[.int .i64 (st.1.length:Int),.int .i64 0])∧JTo W w' X sv pt win T (st.1++[newQ d],st.2) M:=by
 obtain⟨g,sc,cv,cis,vs,h1,h2,rfl⟩:=h;have hcl:=h1.cl;refine(openQ_yes h1 d hd (by omega) h1.w6).mono ?_;rintro e w' ⟨rfl,cv',v,a1,a2,a3⟩;have hbd:BdJ win T (st.1++[newQ d]) st.2:=by
  refine⟨fun s hs=>?_,fun s hs=>?_,fun u hu=>?_⟩
  ·rcases List.mem_append.1 hs with e|e
   ·exact h2.told s e
   ·simp at e;rw[e];exact Nat.zero_le _
  ·rcases List.mem_append.1 hs with e|e
   ·exact h2.wl s e
   ·simp at e;rw[e];exact Nat.zero_le _
  ·have e0:heldSum (st.1++[newQ d])=heldSum st.1:=by unfold heldSum;simp[newQ,st0]
   rw[e0];exact h2.srv u hu
 exact⟨by rw[hcl],jto_of (st':=(st.1++[newQ d],st.2)) a1 hbd a2 a3⟩
end
theorem new_pl (sv pt win:Nat)(w:World)(hc:configB sv pt win=true):Calls Tryz.prog 53 #[.agg #[.int .i64 (sv:Int),.int .i64 (pt:Int),.int .i64 (win:Int)]] w fun e w'=>∃X M,e= .returned (.tuple #[.pointer (some ⟨X,0,none⟩),.int .i64 0])∧JPl w' X sv pt win 0 ([],List.replicate sv ⟨true,0,[],[]⟩) M∧Below w.heap.size w w'∧∀b∈M,w.heap.size≤b:=by
 have hc':=hc;simp only[configB,ringB,withinB,Bool.and_eq_true,decide_eq_true_eq]at hc';obtain⟨⟨⟨a1,a2⟩,a3,a4⟩,a5,a6⟩:=hc';refine(new_yesF sv pt win w hc (by omega) (by omega) (by omega)).mono ?_;rintro e w1 ⟨X,g,sc,vs0,rfl,hj0,hb1,hg1,hf0,hfr⟩;obtain⟨hj1,hfe⟩:=JunQ.fresh hj0 (by omega) hfr;refine⟨X,_,rfl,⟨g,sc,_,_,_,hj1,⟨fun s hs=>(by cases hs),fun s hs=>(by cases hs),fun u hu=>?_⟩,rfl⟩,hb1,fun b hb=>?_⟩
 ·have hu2:=(List.mem_replicate.1 hu).2;rw[hu2];exact⟨by show(0:Nat)<65536;omega,Nat.zero_le _⟩
 ·rcases List.mem_cons.1 hb with e|e
  ·rw[e];exact hg1
  ·refine hf0 b ?_;unfold footQ at e;unfold footJ;rw[hfe]at e;exact e
set_option maxHeartbeats 2000000
set_option maxRecDepth 20000
def JB (base:Nat)(w0 W:World)(X sv pt win T:Nat)(st:List CliQ×List SrvQ):Prop:=∃M,JPl W X sv pt win T st M∧(∀b∈M,base≤b)∧Below base w0 W
theorem JB.step {base:Nat}{w0 W W':World}{X sv pt win T':Nat}{st':List CliQ×List SrvQ}{M:List Nat}(hM:∀b∈M,base≤b)(hs:base≤W.heap.size)(hb:Below base w0 W)(h:JTo W W' X sv pt win T' st' M):JB base w0 W' X sv pt win T' st':=by
 obtain⟨M',a1,a2,a3⟩:=h;refine⟨M',a1,fun b hb=>?_,hb.trans ⟨a2.os,a2.tape,a2.output,a2.size,fun k hk=>a2.block k (by omega) (fun hm=>by have:=hM k hm;omega)⟩⟩;rcases a3 b hb with e|e
 ·exact hM b e
 ·omega
def hd0:List CliQ×List SrvQ:=([newQ 1],[⟨true,0,[],[]⟩])
def hd1:=saidJ 1 1 1 0 [103,101,116,32,97,10] hd0
def hd2:=answeredJ 1 1 1 0 [2,0,0,1,0,0,0,122] hd1
theorem hd1_sent:(hd1.2.map (fun s=>(s.up,s.held,s.sent)))=[(true,[],[1,1,1,0,0,0,0,97])]:=by kernel_rfl
theorem hd2_told:(hd2.1.map (·.told))=[[118,97,108,117,101,32,97,32,49,10,122,10,101,110,100,10]]:=by kernel_rfl
theorem hd1_srv:∃s,hd1.2[0]?=some s∧s.up=true∧s.held=[]∧mkB s.sent=⟨#[1,1,1,0,0,0,0,97]⟩:=by
 have h:=hd1_sent;cases hc:hd1.2 with
 |nil=>rw[hc]at h;cases h
 |cons a l=>
  rw[hc]at h;simp at h;exact⟨a,rfl,h.1.1,h.1.2.1,by rw[h.1.2.2];rfl⟩
theorem hd2_cli:∃s,hd2.1[0]?=some s∧mkB s.told=⟨#[118,97,108,117,101,32,97,32,49,10,122,10,101,110,100,10]⟩:=by
 have h:=hd2_told;cases hc:hd2.1 with
 |nil=>rw[hc]at h;cases h
 |cons a l=>
  rw[hc]at h;simp at h;exact⟨a,rfl,by rw[h.1];rfl⟩
theorem khead_any (w:World):Calls Tryz.prog 52 #[] w fun e w'=>e= .returned (.bool true)∧Below w.heap.size w w':=by
 have HWd:=hide' (words_any w);have HNw:Hid (∀W,Below w.heap.size w W→Calls Tryz.prog 53 #[.agg #[.int .i64 1,.int .i64 1,.int .i64 1]] W fun e w'=>∃X,e= .returned (.tuple #[.pointer (some ⟨X,0,none⟩),.int .i64 0])∧JB w.heap.size w w' X 1 1 1 0 ([],[⟨true,0,[],[]⟩])):=fun W hb=>by
  refine(new_pl 1 1 1 W (by decide)).mono ?_;rintro e w' ⟨X,M,rfl,h1,h2,h3⟩;exact⟨X,rfl,M,h1,fun b hb'=>Nat.le_trans hb.size (h3 b hb'),hb.trans (h2.mono hb.size)⟩
 have HOp:Hid (∀W X,JB w.heap.size w W X 1 1 1 0 ([],[⟨true,0,[],[]⟩])→Calls Tryz.prog 54 #[.pointer (some ⟨X,0,none⟩),.int .i64 1] W fun e w'=>e= .returned (.tuple #[.int .i64 0,.int .i64 0])∧JB w.heap.size w w' X 1 1 1 0 hd0):=fun W X ⟨M,h1,h2,h3⟩=>by
  refine(open_pl h1 1 (.inl rfl) (by simp)).mono ?_;rintro e w' ⟨rfl,h4⟩;exact⟨rfl,JB.step h2 h3.size h3 h4⟩
 have HSy:Hid (∀W X,JB w.heap.size w W X 1 1 1 0 hd0→Calls Tryz.prog 28 #[.pointer (some ⟨X,0,none⟩),.int .i64 0,.string ⟨#[103,101,116,32,97,10]⟩] W fun e w'=>e= .returned (.int .i64 0)∧JB w.heap.size w w' X 1 1 1 24000 hd1):=fun W X ⟨M,h1,h2,h3⟩=>by
  refine(say_pl h1 (i:=0) (s:=newQ 1) rfl ⟨#[103,101,116,32,97,10]⟩ (by decide)).mono ?_;rintro e w' ⟨rfl,h4⟩;exact⟨rfl,JB.step h2 h3.size h3 h4⟩
 have HSt:Hid (∀W X,JB w.heap.size w W X 1 1 1 24000 hd1→Calls Tryz.prog 30 #[.pointer (some ⟨X,0,none⟩),.int .i64 0] W fun e w'=>e= .returned (.tuple #[.string ⟨#[1,1,1,0,0,0,0,97]⟩,.int .i64 0])∧JB w.heap.size w w' X 1 1 1 24000 hd1):=fun W X ⟨M,h1,h2,h3⟩=>by
  obtain⟨s,e1,_,_,e2⟩:=hd1_srv;refine(sent_pl h1 (i:=0) e1).mono ?_;rintro e w' ⟨rfl,h4⟩;exact⟨by rw[e2],JB.step h2 h3.size h3 h4⟩
 have HAn:Hid (∀W X,JB w.heap.size w W X 1 1 1 24000 hd1→Calls Tryz.prog 32 #[.pointer (some ⟨X,0,none⟩),.int .i64 0,.string ⟨#[2,0,0,1,0,0,0,122]⟩] W fun e w'=>e= .returned (.int .i64 0)∧JB w.heap.size w w' X 1 1 1 24000 hd2):=fun W X ⟨M,h1,h2,h3⟩=>by
  obtain⟨s,e1,eu,eh,e2⟩:=hd1_srv;refine(answer_pl h1 (o:=0) e1 ⟨#[2,0,0,1,0,0,0,122]⟩ eu (by decide) (by rw[eh];decide)).mono ?_;rintro e w' ⟨rfl,h4⟩;exact⟨rfl,JB.step h2 h3.size h3 h4⟩
 have HTo:Hid (∀W X,JB w.heap.size w W X 1 1 1 24000 hd2→Calls Tryz.prog 26 #[.pointer (some ⟨X,0,none⟩),.int .i64 0] W fun e w'=>e= .returned (.tuple #[.string ⟨#[118,97,108,117,101,32,97,32,49,10,122,10,101,110,100,10]⟩,.int .i64 0])∧Below w.heap.size w w'):=fun W X ⟨M,h1,h2,h3⟩=>by
  obtain⟨s,e1,e2⟩:=hd2_cli;refine(told_pl h1 (i:=0) e1).mono ?_;rintro e w' ⟨rfl,h4⟩;obtain⟨M',_,_,h5⟩:=JB.step (w0:=w) h2 h3.size h3 h4;exact⟨by rw[e2],h5⟩
 go_enter Tryz.func52,Tryz.ntmps52;go_wp2_with fail
 go_at_call 16;refine HWd.out.mono ?_;rintro e w1 ⟨rfl,hb1⟩;have HX:=hide' (HNw.out w1 hb1);clear hb1 HWd HNw;go_wp2_with fail
 go_at_call 53;refine HX.out.mono ?_;rintro e w2 ⟨X,rfl,h2⟩;have HX2:=hide' (HOp.out w2 X h2);clear h2 HX HOp;go_wp2_with fail
 go_at_call 54;refine HX2.out.mono ?_;rintro e w3 ⟨rfl,h3⟩;have HX3:=hide' (HSy.out w3 X h3);clear h3 HX2 HSy;go_wp2_with fail
 go_at_call 28;refine HX3.out.mono ?_;rintro e w4 ⟨rfl,h4⟩;have HX4:=hide' (HSt.out w4 X h4);clear h4 HX3 HSt;go_wp2_with fail
 go_at_call 30;refine HX4.out.mono ?_;rintro e w5 ⟨rfl,h5⟩;have HX5:=hide' (HAn.out w5 X h5);clear h5 HX4 HAn;go_wp2_with fail
 go_at_call 32;refine HX5.out.mono ?_;rintro e w6 ⟨rfl,h6⟩;have HX6:=hide' (HTo.out w6 X h6);clear h6 HX5 HTo;go_wp2_with fail
 go_at_call 26;refine HX6.out.mono ?_;rintro e w7 ⟨rfl,h7⟩;have HF:=hide' h7;clear h7 HX6;go_wp2;go_ret;exact⟨rfl,HF.out⟩
end Go.Proofs.YtlonjggfnleolaaGreatDoor
