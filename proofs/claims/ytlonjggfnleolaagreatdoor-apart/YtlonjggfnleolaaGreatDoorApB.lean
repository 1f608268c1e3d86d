import Derived.Test.YtlonjggfnleolaaGreatDoorKpN
import Derived.Laws.OwnMore
import Derived.Deep.Slices
import Derived.SizedLaws
import Derived.ChangeArms
import Derived.ChangeSlices
import Derived.Deep.DrawnRows
import Derived.WalkSmall
namespace Go.Proofs.YtlonjggfnleolaaGreatDoor
open Go.RowKit Go.Shelf
set_option linter.unusedVariables false
variable {css:List (List Cmd)}{i:Nat}{gs:List Int}{s:CliQ}
def csOf (css:List (List Cmd))(i:Nat):List Cmd:=(css[i]?).getD []
theorem csOf_some {cs:List Cmd}(h:css[i]?=some cs):csOf css i=cs:=by unfold csOf;rw[h];rfl
theorem csOf_mem {x:Cmd}(h:x∈csOf css i):∃cs,css[i]?=some cs∧x∈cs:=by
 unfold csOf at h;cases hc:css[i]?with
 |none=>rw[hc]at h;cases h
 |some cs=>rw[hc]at h;exact⟨cs,rfl,h⟩
theorem Saids.good' (h:Saids gs css)(i:Nat):∀x∈csOf css i,GoodC (dOf gs i) x:=fun x hx=>by
 obtain⟨cs,h1,h2⟩:=csOf_mem hx
 exact h.good i cs h1 x h2
theorem Saids.short' (h:Saids gs css)(i:Nat):(csOf css i).length≤40:=by
 unfold csOf;cases hc:css[i]?with
 |none=>exact Nat.zero_le _
 |some cs=>exact h.short i cs hc
def txI (gs:List Int)(css:List (List Cmd))(i:Nat):List UInt8:=asksFrom (dOf gs i) 0 (csOf css i)
theorem Saids.size' (h:Saids gs css)(i:Nat):(txI gs css i).length≤15000:=by
 unfold txI csOf;cases hc:css[i]?with
 |none=>exact Nat.zero_le _
 |some cs=>exact h.size i cs hc
def restOf (gs:List Int)(css:List (List Cmd))(sd:List Nat)(i:Nat):List UInt8:=(txI gs css i).drop ((sd[i]?).getD 0)
theorem sum_set:∀(l:List Nat) (i n k:Nat),l[i]?=some n→(l.set i (n+k)).sum=l.sum+k:=by
 intro l;induction l with
 |nil=>intro i n k h;simp at h
 |cons x l ih=>
  intro i n k h;cases i with
  |zero=>simp at h;subst h;simp;omega
  |succ i=>
   simp at h;have:=ih i n k h;simp;omega
theorem sum_le (B:Nat):∀l:List Nat,(∀x∈l,x≤B)→l.sum≤B*l.length:=by
 intro l;induction l with
 |nil=>intro _;simp
 |cons x l ih=>
  intro h;have h1:=h x (by simp);have h2:=ih (fun y hy=>h y (by simp[hy]));rw[List.sum_cons,List.length_cons,Nat.mul_add];omega
section
variable {gs:List Int}{w W W':World}{P X sv pt win:Nat}{css:List (List Cmd)}{sd:List Nat}{st:List CliQ×List SrvQ}{D:PlD}
end
section
variable {w W:World}{P X sv pt win T:Nat}{st:List CliQ×List SrvQ}{D:PlD}
theorem PlayV.callSay (h:PlayV w W P X sv pt win T st D)(hs:st.1[i]?=some s)(piece:ByteArray)(hT:T+4000*piece.size+5000≤100000000000):Calls Tryz.prog 28 #[.pointer (some ⟨X,0,none⟩),.int .i64 (i:Int),.string piece] W fun e w'=>e= .returned (.int .i64 0)∧PlayV w w' P X sv pt win (T+4000*piece.size) (saidJ sv pt win i piece.data.toList st) D:=by
 obtain⟨M,h1,h2,h3⟩:=h;refine(say_pl h2 hs piece hT).mono ?_;rintro e w' ⟨rfl,a⟩;exact⟨rfl,PlayV.jun ⟨M,h1,a,h3⟩⟩
theorem PlayV.callTold (h:PlayV w W P X sv pt win T st D)(hs:st.1[i]?=some s):Calls Tryz.prog 26 #[.pointer (some ⟨X,0,none⟩),.int .i64 (i:Int)] W fun e w'=>e= .returned (.tuple #[.string (mkB s.told),.int .i64 0])∧PlayV w w' P X sv pt win T st D:=by
 obtain⟨M,h1,h2,h3⟩:=h;refine(told_pl h2 hs).mono ?_;rintro e w' ⟨rfl,a⟩;exact⟨rfl,PlayV.jun ⟨M,h1,a,h3⟩⟩
theorem PlayV.callSent (h:PlayV w W P X sv pt win T st D){s:SrvQ}(hs:st.2[i]?=some s):Calls Tryz.prog 30 #[.pointer (some ⟨X,0,none⟩),.int .i64 (i:Int)] W fun e w'=>e= .returned (.tuple #[.string (mkB s.sent),.int .i64 0])∧PlayV w w' P X sv pt win T st D:=by
 obtain⟨M,h1,h2,h3⟩:=h;refine(sent_pl h2 hs).mono ?_;rintro e w' ⟨rfl,a⟩;exact⟨rfl,PlayV.jun ⟨M,h1,a,h3⟩⟩
theorem PlayV.sizes (h:PlayV w W P X sv pt win T st D):(∀s∈st.1,s.told.length≤T)∧∀u∈st.2,u.sent.length≤T:=by
 obtain⟨M,_,⟨_,_,_,_,_,_,h2,_⟩,_⟩:=h;exact⟨fun s hs=>by have:=h2.told s hs;omega,fun u hu=>by have:=(h2.srv u hu).2;omega⟩
end
section
variable {gs:List Int}{w W:World}{P X sv pt win:Nat}{css:List (List Cmd)}{sd:List Nat}{st:List CliQ×List SrvQ}{D:PlD}
end
theorem PlayV.cellsAt {w0 W:World}{P X sv pt win T:Nat}{st:List CliQ×List SrvQ}{D:PlD}(h:PlayV w0 W P X sv pt win T st D){i n j:Nat}{r:Rw}{u:Value}(hr:D.rows[i]?=some r)(hn:r.xs.length=n)(hj:r.xs[j]?=some u):∃g c,r.v= .slice (some ⟨g,0,none⟩) n c∧n≤c∧g<W.heap.size∧W.cell? ⟨g,j,none⟩=some u:=by
 have h1:=h.row hr;rw[hn]at h1;obtain⟨a,c,e1,e2,e3⟩:=row_sl h1;obtain⟨g,rfl,e4,e5⟩:=e3 j u hj;exact⟨g,c,e1,e2,e4,e5⟩
section
variable {gs:List Int}{w W:World}{P X sv pt win:Nat}{css:List (List Cmd)}{sd:List Nat}{st:List CliQ×List SrvQ}{D:PlD}
end
theorem PlayV.pc {w0 W:World}{P X sv pt win T:Nat}{st:List CliQ×List SrvQ}{D:PlD}(h:PlayV w0 W P X sv pt win T st D):W.cell? ⟨P,0,none⟩=some (.pointer (some ⟨X,0,none⟩))∧W.cell? ⟨P,1,none⟩=some D.v1∧W.cell? ⟨P,2,none⟩=some D.v2∧W.cell? ⟨P,3,none⟩=some D.v3∧W.cell? ⟨P,5,none⟩=some D.v5∧P<W.heap.size:=by
 have b:=h.blk;refine⟨?_,?_,?_,?_,?_,blkLt b⟩
 ·have:=blkCell b 0;simpa [ptrV]using this
 ·have:=blkCell b 1;simpa using this
 ·have:=blkCell b 2;simpa using this
 ·have:=blkCell b 3;simpa using this
 ·have:=blkCell b 5;simpa using this
section
variable {gs:List Int}{w W:World}{P X sv pt win:Nat}{css:List (List Cmd)}{sd:List Nat}{st:List CliQ×List SrvQ}{D:PlD}
end
end Go.Proofs.YtlonjggfnleolaaGreatDoor
namespace Go.Proofs.YtlonjggfnleolaaGreatDoor
open Go.RowKit Go.Deep
set_option linter.unusedVariables false
variable {w:World}{a:Addr}{v:Value}{n:Nat}{cs:List Value}
theorem cell_addr (h:w.cell? a=some v):a=⟨a.block,a.off,none⟩∧a.block<w.heap.size:=by
 unfold World.cell? at h;split at h
 ·rename_i c t f hb;split at h
  ·cases h
  ·rename_i hs;have hs':a.spot=none:=by simpa using hs
   refine⟨?_,(Array.getElem?_eq_some_iff.1 hb).1⟩;cases a;simp at hs';subst hs';rfl
 ·cases h
theorem add_plain (b o i:Nat):(⟨b,o,none⟩:Addr).add i=⟨b,o+i,none⟩:=by
 unfold Addr.add;split
 ·subst_vars;rfl
 ·rfl
section
variable {H:Type}{enc:TypeId×Value→H}{W:World}
theorem int_open {fuel:Nat}{x:DataW H×List MemPlace}(h:DataW.trod enc Tryz.prog W 0 (fun _=>true) true fuel 3 [v]=some x):∃n:Int,v= .int .i64 n:=by
 obtain⟨n,e,_⟩:=DataW.trod_int Tryz.underlying3 h;exact⟨n,by simpa using e⟩
theorem each_mem {ts:List TypeId}{xs:List (DataW H×List MemPlace)}{i:Nat}{t:TypeId}{y:DataW H×List MemPlace}(hw:∀k∈DataW.weightsEach Tryz.prog ts (xs.map (·.1)),k≤reachBytes)(ht:ts[i]?=some t)(hy:xs[i]?=some y):∀k∈DataW.weights Tryz.prog t y.1,k≤reachBytes:=
 fun k hk=>hw k (DataW.weights_mem_each ht (by rw[List.getElem?_map,hy];rfl) k hk)
theorem field_at {fs:Array Field}{xs:List (DataW H×List MemPlace)}(hf:∀(i:Nat) (f:Field),fs[i]?=some f→DataW.trod enc Tryz.prog W 0 (fun _=>true) true n f.type ((cs.drop f.offset).take (Tryz.prog.cellsOf f.type))=xs[i]?)(i:Nat)(f:Field)(hi:fs[i]?=some f)(t:TypeId)(o sz:Nat)(ht:f.type=t)(ho:f.offset=o)(hs:Tryz.prog.cellsOf t=sz){y:DataW H×List MemPlace}(hy:xs[i]?=some y)(cs':List Value)(hc:(cs.drop o).take sz=cs'):DataW.trod enc Tryz.prog W 0 (fun _=>true) true n t cs'=some y:=by
 subst ht ho hs hc;exact(hf i f hi).trans hy
theorem weightsAll_mem {e:TypeId}:∀{l:List (DataW H)} {d:DataW H},d∈l→∀n∈d.weights Tryz.prog e,n∈DataW.weightsAll Tryz.prog e l
 |x::l,d,hd,n,hn=>by
  unfold DataW.weightsAll;rw[List.mem_append];rcases List.mem_cons.1 hd with rfl|h
  ·exact .inl hn
  ·exact .inr (weightsAll_mem h n hn)
theorem cells_get (h:w.cells? 0 a n=some cs):∀i,i<n→w.cell? (a.add i)=cs[i]?:=by
 intro i hi;unfold World.cells? at h;rw[if_pos (Nat.zero_le _)]at h;exact mapM_some_get h i i (List.getElem?_range hi)
end
end Go.Proofs.YtlonjggfnleolaaGreatDoor
namespace Go.Proofs.YtlonjggfnleolaaGreatDoor
open Go.RowKit Go.Deep Go.ChangeShapes Go.WideShapes
set_option linter.unusedVariables false
set_option maxRecDepth 20000
variable {fuel:Nat}{v:Value}{cs:List Value}
structure StepsIn (w:World)(a:Option Addr)(n c:Nat):Prop where
 cap:n≤c
 small:n≤140737488355328
 by_:∀i,i<n→∃(g o:Nat) (k x y:Int),a=some ⟨g,o,none⟩∧g<w.heap.size∧w.cell? ⟨g,o+i*3,none⟩=some (.int .i64 k)∧w.cell? ⟨g,o+i*3+1,none⟩=some (.int .i64 x)∧w.cell? ⟨g,o+i*3+2,none⟩=some (.int .i64 y)∧(Lit.int .i64 x).wf=true∧(Lit.int .i64 y).wf=true
structure FaultsIn (w:World)(a:Option Addr)(n c:Nat):Prop where
 cap:n≤c
 small:n≤140737488355328
 by_:∀i,i<n→∃(g o:Nat) (k x:Int) (s:ByteArray),a=some ⟨g,o,none⟩∧g<w.heap.size∧w.cell? ⟨g,o+i*3,none⟩=some (.int .i64 k)∧w.cell? ⟨g,o+i*3+1,none⟩=some (.int .i64 x)∧w.cell? ⟨g,o+i*3+2,none⟩=some (.string s)∧(Lit.int .i64 x).wf=true∧s.size≤140737488351232
section
variable {H:Type}{enc:TypeId×Value→H}{W:World}
theorem int_openW {x:DataW H×List MemPlace}(h:DataW.trod enc Tryz.prog W 0 (fun _=>true) true fuel 3 [v]=some x):∃n:Int,v= .int .i64 n∧(Lit.int .i64 n).wf=true:=by
 obtain⟨n,e,_,e2⟩:=DataW.trod_int Tryz.underlying3 h;exact⟨n,by simpa using e,e2⟩
theorem list3 {α:Type}{l:List α}(h:l.length=3):∃c0 c1 c2,l=[c0,c1,c2]:=by
 match l,h with
 | [c0,c1,c2],_=>exact⟨c0,c1,c2,rfl⟩
theorem step_open {x:DataW H×List MemPlace}(h:DataW.trod enc Tryz.prog W 0 (fun _=>true) true fuel 52 cs=some x):∃k x y:Int,cs=[.int .i64 k,.int .i64 x,.int .i64 y]∧(Lit.int .i64 x).wf=true∧(Lit.int .i64 y).wf=true:=by
 obtain⟨xs,n,_,rfl,hl,hxl,hf⟩:=DataW.trod_struct Tryz.underlying52 h;have e3:Tryz.prog.cellsOf 52=3:=by kernel_rfl
 rw[e3]at hl;have get:∀(l:List (DataW H×List MemPlace)) (m i:Nat),l.length=m→i<m→∃y,l[i]?=some y:=fun l m i a b=>⟨l[i]'(by omega),List.getElem?_eq_getElem _⟩
 have hxl:xs.length=3:=hxl;obtain⟨c0,c1,c2,rfl⟩:=list3 hl;have s3:Tryz.prog.cellsOf 3=1:=by kernel_rfl
 obtain⟨y0,g0⟩:=get xs 3 0 hxl (by omega);obtain⟨y1,g1⟩:=get xs 3 1 hxl (by omega);obtain⟨y2,g2⟩:=get xs 3 2 hxl (by omega);have f0:=field_at hf 0 _ rfl 3 0 1 rfl rfl s3 g0 [c0] rfl;have f1:=field_at hf 1 _ rfl 3 1 1 rfl rfl s3 g1 [c1] rfl;have f2:=field_at hf 2 _ rfl 3 2 1 rfl rfl s3 g2 [c2] rfl;obtain⟨k,rfl⟩:=int_open f0;obtain⟨x,rfl,w1⟩:=int_openW f1;obtain⟨y,rfl,w2⟩:=int_openW f2;exact⟨k,x,y,rfl,w1,w2⟩
theorem fault_open {x:DataW H×List MemPlace}(h:DataW.trod enc Tryz.prog W 0 (fun _=>true) true fuel 70 cs=some x)(hw:∀k∈DataW.weights Tryz.prog 70 x.1,k≤reachBytes):∃(k x:Int) (s:ByteArray),cs=[.int .i64 k,.int .i64 x,.string s]∧(Lit.int .i64 x).wf=true∧s.size≤140737488351232:=by
 obtain⟨xs,n,_,rfl,hl,hxl,hf⟩:=DataW.trod_struct Tryz.underlying70 h;have e3:Tryz.prog.cellsOf 70=3:=by kernel_rfl
 rw[e3]at hl;have hw1:∀k∈DataW.weightsEach Tryz.prog [3,3,9] (xs.map (·.1)),k≤reachBytes:=by
  intro k hk;refine hw k ?_;simp only[DataW.weights,Tryz.underlying70]
  exact hk
 have get:∀(l:List (DataW H×List MemPlace)) (m i:Nat),l.length=m→i<m→∃y,l[i]?=some y:=fun l m i a b=>⟨l[i]'(by omega),List.getElem?_eq_getElem _⟩
 have hxl:xs.length=3:=hxl;obtain⟨c0,c1,c2,rfl⟩:=list3 hl;have s3:Tryz.prog.cellsOf 3=1:=by kernel_rfl
 have s9:Tryz.prog.cellsOf 9=1:=by kernel_rfl
 obtain⟨y0,g0⟩:=get xs 3 0 hxl (by omega);obtain⟨y1,g1⟩:=get xs 3 1 hxl (by omega);obtain⟨y2,g2⟩:=get xs 3 2 hxl (by omega);have f0:=field_at hf 0 _ rfl 3 0 1 rfl rfl s3 g0 [c0] rfl;have f1:=field_at hf 1 _ rfl 3 1 1 rfl rfl s3 g1 [c1] rfl;have f2:=field_at hf 2 _ rfl 9 2 1 rfl rfl s9 g2 [c2] rfl;have w2:=each_mem hw1 (i:=2) rfl g2;obtain⟨k,rfl⟩:=int_open f0;obtain⟨x,rfl,w1⟩:=int_openW f1;obtain⟨s,e1,e2,_⟩:=DataW.trod_string Tryz.underlying9 f2;have e1:c2= .string s:=by simpa using e1
 subst e1;refine⟨k,x,s,rfl,w1,?_⟩;have:=w2 s.data.toList.length (by rw[e2];simp[DataW.weights]);rw[Array.length_toList]at this;unfold reachBytes at this;exact this
theorem steps_open {x:DataW H×List MemPlace}(h:DataW.trod enc Tryz.prog W 0 (fun _=>true) true fuel 47 [v]=some x)(hw:∀k∈DataW.weights Tryz.prog 47 x.1,k≤reachBytes):∃a n c,v= .slice a n c∧StepsIn W a n c:=by
 rcases open_slice Tryz.underlying47 h with⟨hcs,hx⟩|⟨a,len,cap,m,n,D,Pl,hcs,hb,hl,hm,hmm,hx,hel⟩
 ·exact⟨none,0,0,by simpa using hcs,⟨Nat.le_refl _,by omega,fun i hi=>by omega⟩⟩
 ·simp at hcs hmm;subst hcs;subst hmm;have e3:Tryz.prog.cellsOf 52=3:=by kernel_rfl
  have hwt:m*24≤140737488351232:=by
   have e:Tryz.prog.bytesOf 52=24:=by kernel_rfl
   have:=hw ((len+(m-len))*24) (by rw[hx];simp[DataW.weights,Tryz.underlying47,e]);unfold reachBytes at this;have e2:len+(m-len)=m:=by omega
   rw[e2]at this;omega
  refine⟨some a,len,m,rfl,⟨hl,by omega,fun j hj=>?_⟩⟩;obtain⟨cs,hc1,hc2⟩:=hel j (by omega);rw[e3]at hc1;obtain⟨k,x,y,rfl,w1,w2⟩:=step_open hc2;have hg:=cells_get hc1;have ha:a=⟨a.block,a.off,none⟩∧a.block<W.heap.size:=by
   obtain⟨cs0,d1,d2⟩:=hel 0 (by omega);rw[e3]at d1;obtain⟨_,_,_,rfl,_,_⟩:=step_open d2;have h0:=cells_get d1 0 (by omega);have q3:(a.add (0*3)).add 0=a:=by simp[Addr.add]
   rw[q3]at h0;exact cell_addr (h0.trans rfl)
  obtain⟨ha1,ha2⟩:=ha;rw[ha1,add_plain]at hg;refine⟨a.block,a.off,k,x,y,by rw[←ha1],ha2,?_,?_,?_,w1,w2⟩
  ·have:=hg 0 (by omega);rw[add_plain]at this;exact this
  ·have:=hg 1 (by omega);rw[add_plain]at this;exact this
  ·have:=hg 2 (by omega);rw[add_plain]at this;exact this
theorem faults_open {x:DataW H×List MemPlace}(h:DataW.trod enc Tryz.prog W 0 (fun _=>true) true fuel 61 [v]=some x)(hw:∀k∈DataW.weights Tryz.prog 61 x.1,k≤reachBytes):∃a n c,v= .slice a n c∧FaultsIn W a n c:=by
 rcases open_slice Tryz.underlying61 h with⟨hcs,hx⟩|⟨a,len,cap,m,n,D,Pl,hcs,hb,hl,hm,hmm,hx,hel⟩
 ·exact⟨none,0,0,by simpa using hcs,⟨Nat.le_refl _,by omega,fun i hi=>by omega⟩⟩
 ·simp at hcs hmm;subst hcs;subst hmm;have e3:Tryz.prog.cellsOf 70=3:=by kernel_rfl
  have hwt:m*32≤140737488351232:=by
   have e:Tryz.prog.bytesOf 70=32:=by kernel_rfl
   have:=hw ((len+(m-len))*32) (by rw[hx];simp[DataW.weights,Tryz.underlying61,e]);unfold reachBytes at this;have e2:len+(m-len)=m:=by omega
   rw[e2]at this;omega
  refine⟨some a,len,m,rfl,⟨hl,by omega,fun j hj=>?_⟩⟩;obtain⟨cs,hc1,hc2⟩:=hel j (by omega);rw[e3]at hc1;obtain⟨k,x,s,rfl,w1,w2⟩:=fault_open hc2 (fun k hk=>hw k (by
   rw[hx];simp only[DataW.weights,Tryz.underlying61,List.mem_cons,List.mem_append]
   exact .inr (.inl (weightsAll_mem (List.mem_map.2 ⟨j,List.mem_range.2 hj,rfl⟩) k hk))))
  have hg:=cells_get hc1;have ha:a=⟨a.block,a.off,none⟩∧a.block<W.heap.size:=by
   obtain⟨cs0,d1,d2⟩:=hel 0 (by omega);rw[e3]at d1;obtain⟨_,_,_,rfl,_,_⟩:=fault_open d2 (fun k hk=>hw k (by
    rw[hx];simp only[DataW.weights,Tryz.underlying61,List.mem_cons,List.mem_append]
    exact .inr (.inl (weightsAll_mem (List.mem_map.2 ⟨0,List.mem_range.2 (by omega),rfl⟩) k hk))))
   have h0:=cells_get d1 0 (by omega);have q3:(a.add (0*3)).add 0=a:=by simp[Addr.add]
   rw[q3]at h0;exact cell_addr (h0.trans rfl)
  obtain⟨ha1,ha2⟩:=ha;rw[ha1,add_plain]at hg;refine⟨a.block,a.off,k,x,s,by rw[←ha1],ha2,?_,?_,?_,w1,w2⟩
  ·have:=hg 0 (by omega);rw[add_plain]at this;exact this
  ·have:=hg 1 (by omega);rw[add_plain]at this;exact this
  ·have:=hg 2 (by omega);rw[add_plain]at this;exact this
theorem raw_openS {x:DataW H×List MemPlace}(h:DataW.trod enc Tryz.prog W 0 (fun _=>true) true fuel 25 [v]=some x)(hw:∀k∈DataW.weights Tryz.prog 25 x.1,k≤reachBytes):∃xs a n c,v= .slice a n c∧RawIn W a n c xs:=by
 rcases open_ints Tryz.underlying25 Tryz.underlying3 (by kernel_rfl) h with⟨hcs,hx⟩|⟨a,len,cap,zs,hcs,hb,hl,hm,hzl,hx,hel,hwf⟩
 ·have:v= .slice none 0 0:=by simpa using hcs
  subst this;exact⟨[],none,0,0,rfl,⟨rfl,Nat.le_refl _,by omega,fun _ _ _ h=>by omega,fun i hi=>by omega,fun i hi=>by omega⟩⟩
 ·simp at hcs hzl;subst hcs;have hwt:cap*8≤140737488351232:=by
   have e:Tryz.prog.bytesOf 3=8:=by kernel_rfl
   have e3:(lits (H:=H) .i64 (zs.take len)).length+(lits (H:=H) .i64 (zs.drop len)).length=cap:=by
    simp[lits];omega
   have:=hw (cap*8) (by rw[hx];simp only[DataW.weights,Tryz.underlying25,e,e3];exact List.mem_cons_self);unfold reachBytes at this;omega
  have hg:∀i,i<len→(zs.take len).getD i 0=zs.getD i 0:=fun i hi=>by
   simp[List.getD,List.getElem?_take_of_lt hi]
  have ha:1≤len→a=⟨a.block,a.off,none⟩∧a.block<W.heap.size:=fun h1=>by
   have h0:=hel 0 (by omega);have ea:a.add 0=a:=by simp[Addr.add]
   rw[ea]at h0;exact cell_addr h0
  refine⟨zs.take len,some a,len,cap,rfl,⟨by simp;omega,hl,by omega,fun g o' e h1=>?_,fun i hi=>?_,fun i hi=>?_⟩⟩
  ·have h2:=(ha h1).2;cases e;exact h2
  ·obtain⟨h1,h2⟩:=ha (by omega);refine⟨a.block,a.off,by rw[←h1],?_⟩;rw[hg i hi];have:=hel i (by omega);rw[h1,add_plain]at this;exact this
  ·rw[hg i hi];refine hwf _ ?_;have hi2:i<zs.length:=by omega
   have hgz:zs.getD i 0=zs[i]:=by simp[List.getD,List.getElem?_eq_getElem hi2]
   rw[hgz];exact List.getElem_mem hi2
theorem lists_open {x:DataW H×List MemPlace}(h:DataW.trod enc Tryz.prog W 0 (fun _=>true) true fuel 46 [v]=some x)(hw:∀k∈DataW.weights Tryz.prog 46 x.1,k≤reachBytes):∃a n c ls,v= .slice a n c∧LisIn W a n c ls:=by
 rcases open_slice1 Tryz.underlying46 (by kernel_rfl) h with⟨hcs,hx⟩|⟨a,len,cap,m,n,V,D,Pl,hcs,hb,hl,hm,hmm,hx,hel⟩
 ·simp at hcs;exact⟨none,0,0,[],hcs,⟨rfl,Nat.le_refl _,by omega,fun i xs hi=>by simp at hi⟩⟩
 ·simp at hcs hmm;subst hcs;subst hmm;have hwt:m*24≤140737488351232:=by
   have e:Tryz.prog.bytesOf 25=24:=by kernel_rfl
   have:=hw ((len+(m-len))*24) (by rw[hx];simp[DataW.weights,Tryz.underlying46,e]);unfold reachBytes at this;have e2:len+(m-len)=m:=by omega
   rw[e2]at this;omega
  have each:∀i,i<len→∃xs a n c,V i= .slice a n c∧RawIn W a n c xs:=fun i hi=>by
   obtain⟨h1,h2⟩:=hel i (by omega);exact raw_openS h2 (fun k hk=>hw k (by
    rw[hx];simp only[DataW.weights,Tryz.underlying46,List.mem_cons,List.mem_append]
    exact .inr (.inl (weightsAll_mem (List.mem_map.2 ⟨i,List.mem_range.2 hi,rfl⟩) k hk))))
  refine⟨some a,len,m,(List.range len).map (fun i=>if h:i<len then Classical.choose (each i h)else []),rfl,⟨by simp,hl,by omega,fun i xs hi=>?_⟩⟩;rw[List.getElem?_map]at hi;by_cases hil:i<len
  ·rw[List.getElem?_range hil]at hi;simp only[Option.map_some,dif_pos hil]at hi;have hx2:Classical.choose (each i hil)=xs:=Option.some.inj hi;obtain⟨ia,im,ic,e1,e2⟩:=Classical.choose_spec (each i hil);rw[hx2]at e2;have h0:=(hel 0 (by omega)).1;have ea:a.add 0=a:=by simp[Addr.add]
   rw[ea]at h0;obtain⟨q1,q2⟩:=cell_addr h0;refine⟨a.block,a.off,ia,im,ic,by rw[←q1],q2,?_,e2⟩;have h1:=(hel i (by omega)).1;rw[q1,add_plain,e1]at h1;exact h1
  ·rw[List.getElem?_eq_none (by simp;omega)]at hi;cases hi
end
end Go.Proofs.YtlonjggfnleolaaGreatDoor
namespace Go.Proofs.YtlonjggfnleolaaGreatDoor
open Go.RowKit Go.Shelf
set_option linter.unusedVariables false
theorem wrap_u8 (n:Int):IntKind.u8.wrap n=n % 256:=by
 unfold IntKind.wrap;simp[IntKind.bits,IntKind.signed]
theorem ext_to {T:ByteArray}{a b:List UInt8}{n:Nat}(h:T.data.toList=a++b)(hn:n=a.length):T.extract n T.size=mkB b:=by
 subst hn;have e:(T.extract a.length T.size).data.toList=b:=by
  rw[ByteArray.data_extract,Array.toList_extract,h];simp[List.extract];have hl:T.size=a.length+b.length:=by
   have:=congrArg List.length h;rw[Array.length_toList,List.length_append]at this;exact this
  rw[hl,Nat.add_sub_cancel_left];simp
 rw[←mkB_toList (T.extract a.length T.size),e]
attribute [local go_sem ↓] Go.wp_at_zero Go.wp_at_succ
variable {gs:List Int}{css:List (List Cmd)}{sd:List Nat}{c n j:Nat}{w:World}{a:Option Addr}
def sdTo (gs:List Int)(css:List (List Cmd))(sd:List Nat)(c:Nat):List Nat:=sd.mapIdx (fun i n=>if i<c then(txI gs css i).length else n)
theorem sdTo_zero (gs:List Int)(css:List (List Cmd))(sd:List Nat):sdTo gs css sd 0=sd:=by
 refine List.ext_getElem? (fun i=>?_);unfold sdTo;rw[List.getElem?_mapIdx];cases sd[i]?<;>simp
theorem sdTo_get (h:sd[c]?=some n):(sdTo gs css sd c)[c]?=some n:=by
 unfold sdTo;rw[List.getElem?_mapIdx,h];simp
theorem sdTo_succ (h:c<sd.length):(sdTo gs css sd c).set c (txI gs css c).length=sdTo gs css sd (c+1):=by
 refine List.ext_getElem? (fun i=>?_);rw[List.getElem?_set];split
 ·rename_i e;subst e;rw[if_pos (by unfold sdTo;rw[List.length_mapIdx];exact h)];unfold sdTo;rw[List.getElem?_mapIdx,List.getElem?_eq_getElem h];simp
 ·rename_i e;unfold sdTo;rw[List.getElem?_mapIdx,List.getElem?_mapIdx];cases sd[i]?with
  |none=>rfl
  |some n=>
   simp only[Option.map_some]
   by_cases h1:i<c
   ·rw[if_pos h1,if_pos (by omega)]
   ·rw[if_neg h1,if_neg (by omega)]
section
variable {gs:List Int}{w W:World}{P X sv pt win:Nat}{css:List (List Cmd)}{sd sd':List Nat}{st:List CliQ×List SrvQ}{D:PlD}
end
def KindAt (w:World)(sa:Option Addr)(j:Nat)(k:Int):Prop:=∃(g o:Nat) (x y:Int),sa=some ⟨g,o,none⟩∧g<w.heap.size∧w.cell? ⟨g,o+j*3,none⟩=some (.int .i64 k)∧w.cell? ⟨g,o+j*3+1,none⟩=some (.int .i64 x)∧w.cell? ⟨g,o+j*3+2,none⟩=some (.int .i64 y)∧(Lit.int .i64 x).wf=true∧(Lit.int .i64 y).wf=true
theorem StepsIn.kind (h:StepsIn w a n c)(hj:j<n):∃k,KindAt w a j k:=by
 obtain⟨g,o,k,x,y,h1⟩:=h.by_ j hj;exact⟨k,g,o,x,y,h1⟩
theorem KindAt.at_ {k:Int}(h:KindAt w a j k):∃(g o:Nat) (x y:Int),a=some ⟨g,o,none⟩∧(Lit.int .i64 x).wf=true∧(Lit.int .i64 y).wf=true∧∀W,Below w.heap.size w W→g<W.heap.size∧W.cell? ⟨g,o+j*3,none⟩=some (.int .i64 k)∧W.cell? ⟨g,o+j*3+1,none⟩=some (.int .i64 x)∧W.cell? ⟨g,o+j*3+2,none⟩=some (.int .i64 y):=by
 obtain⟨g,o,x,y,h1,h2,h3,h4,h5,h6,h7⟩:=h;exact⟨g,o,x,y,h1,h6,h7,fun W hb=>⟨Nat.lt_of_lt_of_le h2 hb.size,(hb.cell (p:=⟨g,_,none⟩) h2).trans h3,(hb.cell (p:=⟨g,_,none⟩) h2).trans h4,(hb.cell (p:=⟨g,_,none⟩) h2).trans h5⟩⟩
theorem FaultsIn.at_ (h:FaultsIn w a n c)(hj:j<n):∃(g o:Nat) (k x:Int) (s:ByteArray),a=some ⟨g,o,none⟩∧(Lit.int .i64 x).wf=true∧s.size≤140737488351232∧∀W,Below w.heap.size w W→g<W.heap.size∧W.cell? ⟨g,o+j*3,none⟩=some (.int .i64 k)∧W.cell? ⟨g,o+j*3+1,none⟩=some (.int .i64 x)∧W.cell? ⟨g,o+j*3+2,none⟩=some (.string s):=by
 obtain⟨g,o,k,x,s,h1,h2,h3,h4,h5,h6,h7⟩:=h.by_ j hj;exact⟨g,o,k,x,s,h1,h6,h7,fun W hb=>⟨Nat.lt_of_lt_of_le h2 hb.size,(hb.cell (p:=⟨g,_,none⟩) h2).trans h3,(hb.cell (p:=⟨g,_,none⟩) h2).trans h4,(hb.cell (p:=⟨g,_,none⟩) h2).trans h5⟩⟩
variable {j i o id:Nat}{cs:List Cmd}
structure En where
 i:Nat
 n:Nat
 m:Nat
 k:Int
 key:ByteArray
 val:ByteArray
def frsE (es:List En):List Fr:=es.mapIdx (fun j e=>⟨e.k,e.key,e.val,j⟩)
theorem frsE_snoc (es:List En)(e:En):frsE (es++[e])=frsE es++[⟨e.k,e.key,e.val,es.length⟩]:=by
 unfold frsE;rw[List.mapIdx_append];simp
theorem frsE_get {es:List En}{e:En}(h:es[j]?=some e):(frsE es)[j]?=some ⟨e.k,e.key,e.val,j⟩:=by
 unfold frsE;rw[List.getElem?_mapIdx,h];rfl
theorem frsE_len (es:List En):(frsE es).length=es.length:=List.length_mapIdx
def updF {α:Type}(f:Nat→α)(i:Nat)(x:α):Nat→α:=fun j=>if j=i then x else f j
theorem updF_same {α:Type}(f:Nat→α)(i:Nat)(x:α):updF f i x i=x:=if_pos rfl
theorem updF_ne {α:Type}(f:Nat→α)(x:α)(h:j≠i):updF f i x j=f j:=if_neg h
def partsK (i n:Nat)(k:Int)(val:ByteArray)(ks:List ByteArray):List En:=ks.mapIdx (fun m key=>⟨i,n,m,k,key,val⟩)
theorem partsK_snoc (i n:Nat)(k:Int)(val:ByteArray)(ks:List ByteArray)(key:ByteArray):partsK i n k val (ks++[key])=partsK i n k val ks++[⟨i,n,ks.length,k,key,val⟩]:=by
 unfold partsK;rw[List.mapIdx_append];simp
def partsN (i:Nat)(cs:List Cmd):Nat→List En
 |0=>[]
 |n+1=>partsN i cs n++(match cs[n]?with|some c=>partsK i n c.kind c.val c.keys|none=>[])
theorem partsN_succ {n:Nat}{c:Cmd}(h:cs[n]?=some c):partsN i cs (n+1)=partsN i cs n++partsK i n c.kind c.val c.keys:=by
 show partsN i cs n++_=_;rw[h]
theorem partsN_len (h:∀c∈cs,c.keys.length≤4):∀n,(partsN i cs n).length≤4*n:=by
 intro n;induction n with
 |zero=>exact Nat.le_refl _
 |succ n ih=>
  show(partsN i cs n++_).length≤_;rw[List.length_append];cases hc:cs[n]?with
  |none=>simp;omega
  |some c=>
   have:=h c (List.mem_of_getElem? hc);simp only[partsK,List.length_mapIdx]
   omega
structure LgI (Fl:Prop)(sv pt:Nat)(N:Nat→List En)(L:Nat→List En):Prop where
 sub:∀o i,((L o).filter (fun e=>e.i==i)).Sublist ((N i).filter (fun e=>ownerN sv pt e.key==o))
 eq:¬Fl→∀o i,(L o).filter (fun e=>e.i==i)=(N i).filter (fun e=>ownerN sv pt e.key==o)
 c4:∀o,∀e∈L o,e.i<4
theorem four_len:∀l:List En,(∀e∈l,e.i<4)→l.length=(l.filter (fun e=>e.i==0)).length+(l.filter (fun e=>e.i==1)).length+(l.filter (fun e=>e.i==2)).length+(l.filter (fun e=>e.i==3)).length:=by
 intro l;induction l with
 |nil=>intro _;rfl
 |cons e l ih=>
  intro h;have h1:=ih (fun x hx=>h x (by simp[hx]));have h2:=h e (by simp);have:e.i=0∨e.i=1∨e.i=2∨e.i=3:=by omega
  rcases this with h|h|h|h<;>(simp only[List.filter_cons,h,List.length_cons];simp;omega)
section
variable {Fl:Prop}{sv pt:Nat}{N L:Nat→List En}
theorem LgI.short (h:LgI Fl sv pt N L)(hN:∀i,(N i).length≤200)(o:Nat):(L o).length≤800:=by
 have hl:∀i,((L o).filter (fun e=>e.i==i)).length≤200:=fun i=>Nat.le_trans (h.sub o i).length_le (Nat.le_trans (List.length_filter_le _ _) (hN i))
 rw[four_len (L o) (h.c4 o)];have:=hl 0;have:=hl 1;have:=hl 2;have:=hl 3;omega
theorem LgI.sent (h:LgI Fl sv pt N L)(e:En)(he:e.i<4):LgI Fl sv pt (updF N e.i (N e.i++[e])) (updF L (ownerN sv pt e.key) (L (ownerN sv pt e.key)++[e])):=by
 have key:∀(o i:Nat),∃a b t,(updF L (ownerN sv pt e.key) (L (ownerN sv pt e.key)++[e]) o).filter (fun e=>e.i==i)=a++t∧(updF N e.i (N e.i++[e]) i).filter (fun e=>ownerN sv pt e.key==o)=b++t∧a=(L o).filter (fun e=>e.i==i)∧b=(N i).filter (fun e=>ownerN sv pt e.key==o):=fun o i=>by
  by_cases ho:o=ownerN sv pt e.key
  ·subst ho;rw[updF_same,List.filter_append];by_cases hi:i=e.i
   ·subst hi;rw[updF_same,List.filter_append];exact⟨_,_,[e],by simp,by simp,rfl,rfl⟩
   ·rw[updF_ne _ _ hi];exact⟨_,_,[],by simp;exact fun h=>hi h.symm,by simp,rfl,rfl⟩
  ·rw[updF_ne _ _ ho];by_cases hi:i=e.i
   ·subst hi;rw[updF_same,List.filter_append];exact⟨_,_,[],by simp,by simp;exact fun h=>ho h.symm,rfl,rfl⟩
   ·rw[updF_ne _ _ hi];exact⟨_,_,[],by simp,by simp,rfl,rfl⟩
 refine⟨fun o i=>?_,fun hF o i=>?_,fun o x hx=>?_⟩
 ·obtain⟨a,b,t,h1,h2,h3,h4⟩:=key o i;rw[h1,h2,h3,h4];exact(h.sub o i).append (List.Sublist.refl _)
 ·obtain⟨a,b,t,h1,h2,h3,h4⟩:=key o i;rw[h1,h2,h3,h4,h.eq hF o i]
 ·unfold updF at hx;split at hx
  ·rcases List.mem_append.1 hx with e1|e1
   ·exact h.c4 _ x e1
   ·rw[List.mem_singleton.1 e1];exact he
  ·exact h.c4 o x hx
theorem LgI.lost (h:LgI Fl sv pt N L)(e:En)(hF:Fl):LgI Fl sv pt (updF N e.i (N e.i++[e])) L:=by
 refine⟨fun o i=>?_,fun h=>absurd hF h,h.c4⟩;by_cases hi:i=e.i
 ·subst hi;rw[updF_same,List.filter_append];exact(h.sub o e.i).trans (List.sublist_append_left _ _)
 ·rw[updF_ne _ _ hi];exact h.sub o i
end
def SrvsL (ss:List SrvQ)(L:Nat→List En):Prop:=∀(o:Nat) (u:SrvQ),ss[o]?=some u→u.sent=(frsE (L o)).flatMap Fr.by_∧u.next=(L o).length
def Ext (L L':Nat→List En):Prop:=∀o,∃t,L' o=L o++t
theorem Ext.refl (L:Nat→List En):Ext L L:=fun o=>⟨[],by simp⟩
theorem Ext.trans {A B C:Nat→List En}(h:Ext A B)(k:Ext B C):Ext A C:=fun o=>by
 obtain⟨t,e1⟩:=h o
 obtain⟨t',e2⟩:=k o
 exact⟨t++t',by rw[e2,e1,List.append_assoc]⟩
theorem Ext.get {A B:Nat→List En}(h:Ext A B){e:En}(he:(A o)[j]?=some e):(B o)[j]?=some e:=by
 obtain⟨t,e1⟩:=h o;rw[e1,List.getElem?_append_left (List.getElem?_eq_some_iff.1 he).1];exact he
theorem Ext.len {A B:Nat→List En}(h:Ext A B)(o:Nat):(A o).length≤(B o).length:=by
 obtain⟨t,e1⟩:=h o;rw[e1,List.length_append];omega
theorem freeJ_zero {nx:Nat}{ids:List Nat}(h:∀x∈ids,x<nx)(hn:nx<65536):freeJ nx ids=0:=by
 unfold freeJ;have h1:ids.contains ((nx+0) % 65536)=false:=by
  rw[Nat.add_zero,Nat.mod_eq_of_lt hn];cases hc:ids.contains nx with
  |false=>rfl
  |true=>
   have:=h nx (by simpa using hc);omega
 rw[List.range_succ_eq_map,List.find?_cons_of_pos (by rw[h1];rfl)];rfl
theorem mem_opPs {ps:List PS}:(o,id)∈opPs ps↔ .op o id∈ps:=by
 unfold opPs;rw[List.mem_filterMap];constructor
 ·rintro ⟨p,h1,h2⟩;cases p using PS.el<;>simp at h2;obtain⟨rfl,rfl⟩:=h2;exact h1
 ·intro h;exact⟨_,h,rfl⟩
theorem mem_opQs {qs:List QS}:(o,id)∈opQs qs↔∃x∈qs,.op o id∈x.ps:=by
 unfold opQs;rw[List.mem_flatMap];constructor
 ·rintro ⟨x,h1,h2⟩;exact⟨x,h1,mem_opPs.1 h2⟩
 ·rintro ⟨x,h1,h2⟩;exact⟨x,h1,mem_opPs.2 h2⟩
theorem mem_opJ {cs:List CliQ}:(o,id)∈opJ cs↔∃s∈cs,∃x∈s.qs,.op o id∈x.ps:=by
 unfold opJ;rw[List.mem_flatMap];constructor
 ·rintro ⟨s,h1,h2⟩;exact⟨s,h1,mem_opQs.1 h2⟩
 ·rintro ⟨s,h1,h2⟩;exact⟨s,h1,mem_opQs.2 h2⟩
structure SendTo (Fl:Prop)(sv pt i n:Nat)(k:Int)(val:ByteArray)(N L:Nat→List En)(ks:List ByteArray)(st:List SrvQ×List PS)(L':Nat→List En):Prop where
 lg:LgI Fl sv pt (updF N i (N i++partsK i n k val ks)) L'
 sr:SrvsL st.1 L'
 ext:Ext L L'
 len:st.2.length=ks.length
 ps:∀(m:Nat) (p:PS),st.2[m]?=some p→∃key,ks[m]?=some key∧((p= .fl∧Fl)∨∃id,p= .op (ownerN sv pt key) id∧(L (ownerN sv pt key)).length≤id∧(L' (ownerN sv pt key))[id]?=some ⟨i,n,m,k,key,val⟩)
 new:∀(o j:Nat) (e:En),(L' o)[j]?=some e→(L o).length≤j→e.i=i∧e.n=n∧st.2[e.m]?=some (.op o j)
theorem sends_log {Fl:Prop}{sv pt:Nat}{ss:List SrvQ}{N L:Nat→List En}(hsv:1≤sv)(hl:ss.length=sv)(hup:¬Fl→∀o,o<sv→upAt ss o)(hL:LgI Fl sv pt N L)(hS:SrvsL ss L)(ex:List (Nat×Nat))(hex:∀o id,(o,id)∈ex→id<(L o).length)(n:Nat)(k:Int)(val:ByteArray)(hi:i<4)(hN:∀i,(N i).length≤160)(ks:List ByteArray)(hk:ks.length≤4):∃L',SendTo Fl sv pt i n k val N L ks (sendsK sv pt k val ex ss ks) L':=by
 have h:=sendsK_ind sv pt k val ex ss (fun ks st=>ks.length≤4→SameIn ss st.1∧∃L',SendTo Fl sv pt i n k val N L ks st L') (fun _=>⟨SameIn.refl _,L,⟨by
  have e:updF N i (N i++partsK i n k val [])=N:=by
   funext j;unfold updF partsK;by_cases hj:j=i
   ·rw[if_pos hj,hj];simp
   ·rw[if_neg hj]
  rw[e];exact hL,hS,Ext.refl _,rfl,fun m p hp=>(by simp at hp),fun o j e he hj=>by have:=(List.getElem?_eq_some_iff.1 he).1;omega⟩⟩) (fun ks key st hP hk=>by
  obtain⟨hin,L1,H⟩:=hP (by rw[List.length_append]at hk;omega);have ho:ownerN sv pt key<st.1.length:=by rw[hin.1,hl];exact ownerN_lt sv pt key hsv
  have hs:=List.getElem?_eq_getElem ho;generalize st.1[ownerN sv pt key]=s at hs;have hlen:∀o,(L1 o).length≤800:=H.lg.short (fun j=>by
   unfold updF;split
   ·rw[List.length_append];have:=hN i;rw[List.length_append]at hk;unfold partsK;rw[List.length_mapIdx];omega
   ·have:=hN j;omega)
  have eN:updF (updF N i (N i++partsK i n k val ks)) i (updF N i (N i++partsK i n k val ks) i++[⟨i,n,ks.length,k,key,val⟩])=updF N i (N i++partsK i n k val (ks++[key])):=by
   funext j;rw[partsK_snoc,updF_same];unfold updF;split
   ·rw[List.append_assoc]
   ·rfl
  have hps:∀(p':PS) (m:Nat) (p:PS),(st.2++[p'])[m]?=some p→(m<ks.length∧st.2[m]?=some p)∨(m=ks.length∧p=p'):=fun p' m p hp=>by
   have h1:=H.len;by_cases hm:m<st.2.length
   ·rw[List.getElem?_append_left hm]at hp;exact .inl ⟨by omega,hp⟩
   ·rw[List.getElem?_append_right (by omega)]at hp;cases hj:m-st.2.length with
    |zero=>rw[hj]at hp;simp at hp;exact .inr ⟨by omega,hp.symm⟩
    |succ j=>rw[hj]at hp;simp at hp
  unfold sendK;rw[hs];simp only
  by_cases hu:s.up=true
  ·rw[if_pos hu];obtain⟨s1,s2⟩:=H.sr _ s hs;have hfr:freeJ s.next (idsAt (ownerN sv pt key) (ex++opPs st.2))=0:=freeJ_zero (fun x hx=>by
    rcases List.mem_append.1 (mem_idsAt.1 hx)with e|e
    ·have h1:=hex _ _ e;have h2:=H.ext.len (ownerN sv pt key);omega
    ·obtain⟨m,hm⟩:=List.mem_iff_getElem?.1 (mem_opPs.1 e);obtain⟨key',_,h2|⟨id,h2,_,h3⟩⟩:=H.ps m _ hm
     ·cases h2.1
     ·have e1:ownerN sv pt key=ownerN sv pt key'∧x=id:=by injection h2 with h2;injection h2 with h2;injection h2 with h2;injection h2 with a b;exact⟨a,b⟩
      have h4:=(List.getElem?_eq_some_iff.1 h3).1;rw[←e1.1]at h4;rw[e1.2];omega) (by have:=hlen (ownerN sv pt key);omega)
   have hnx:=hlen (ownerN sv pt key);rw[hfr,Nat.add_zero,s2,Nat.mod_eq_of_lt (by omega),Nat.mod_eq_of_lt (by omega)];refine⟨hin.trans ⟨by simp,fun j s' hj=>?_⟩,updF L1 (ownerN sv pt key) (L1 (ownerN sv pt key)++[⟨i,n,ks.length,k,key,val⟩]),?_,?_,?_,by rw[List.length_append,List.length_append,H.len];rfl,fun m p hp=>?_,fun o j e he hj=>?_⟩
   ·rcases get_set hj with⟨e1,e2⟩|⟨e1,e2⟩
    ·rw[e1,e2];exact⟨s,hs,rfl,rfl⟩
    ·exact⟨s',e2,rfl,rfl⟩
   ·have:=H.lg.sent ⟨i,n,ks.length,k,key,val⟩ hi;simp only at this;rw[eN]at this;exact this
   ·intro o u hu;rcases get_set hu with⟨e1,e2⟩|⟨e1,e2⟩
    ·rw[e1,e2,updF_same,frsE_snoc,List.flatMap_append];refine⟨?_,by rw[List.length_append];rfl⟩;show s.sent++_=_;rw[s1];simp[Fr.by_]
    ·rw[updF_ne _ _ e1];exact H.sr o u e2
   ·refine H.ext.trans (fun o=>?_);by_cases e:o=ownerN sv pt key
    ·rw[e,updF_same];exact⟨_,rfl⟩
    ·rw[updF_ne _ _ e];exact⟨[],by simp⟩
   ·rcases hps _ m p hp with⟨e1,e2⟩|⟨e1,e2⟩
    ·obtain⟨key',h1,h2⟩:=H.ps m p e2;refine⟨key',by rw[List.getElem?_append_left e1];exact h1,?_⟩;rcases h2 with h2|⟨id,h2,h3,h4⟩
     ·exact .inl h2
     ·refine .inr ⟨id,h2,h3,?_⟩;by_cases e:ownerN sv pt key'=ownerN sv pt key
      ·rw[e,updF_same,←e,List.getElem?_append_left (List.getElem?_eq_some_iff.1 h4).1];exact h4
      ·rw[updF_ne _ _ e];exact h4
    ·refine⟨key,by rw[e1];simp,.inr ⟨_,e2,H.ext.len _,?_⟩⟩;rw[updF_same,e1];simp
   ·by_cases eo:o=ownerN sv pt key
    ·subst eo;rw[updF_same]at he;by_cases hjl:j<(L1 (ownerN sv pt key)).length
     ·rw[List.getElem?_append_left hjl]at he;obtain⟨h1,h2,h3⟩:=H.new _ j e he hj;exact⟨h1,h2,by rw[List.getElem?_append_left (List.getElem?_eq_some_iff.1 h3).1];exact h3⟩
     ·rw[List.getElem?_append_right (by omega)]at he;cases hz:j-(L1 (ownerN sv pt key)).length with
      |zero=>
       rw[hz]at he;simp at he;subst he;refine⟨rfl,rfl,?_⟩;have:j=(L1 (ownerN sv pt key)).length:=by omega
       rw[this];simp[←H.len]
      |succ z=>rw[hz]at he;simp at he
    ·rw[updF_ne _ _ eo]at he;obtain⟨h1,h2,h3⟩:=H.new _ j e he hj;exact⟨h1,h2,by rw[List.getElem?_append_left (List.getElem?_eq_some_iff.1 h3).1];exact h3⟩
  ·rw[if_neg hu];have hF:Fl:=Classical.byContradiction fun hF=>by
    obtain⟨v,v1,v2⟩:=(upAt_same hin).1 (hup hF _ (ownerN_lt sv pt key hsv));rw[hs]at v1;cases v1;exact hu v2
   refine⟨hin,L1,?_,H.sr,H.ext,by rw[List.length_append,List.length_append,H.len];rfl,fun m p hp=>?_,fun o j e he hj=>?_⟩
   ·have:=H.lg.lost ⟨i,n,ks.length,k,key,val⟩ hF;simp only at this;rw[eN]at this;exact this
   ·rcases hps _ m p hp with⟨e1,e2⟩|⟨e1,e2⟩
    ·obtain⟨key',h1,h2⟩:=H.ps m p e2;exact⟨key',by rw[List.getElem?_append_left e1];exact h1,h2⟩
    ·exact⟨key,by rw[e1];simp,.inl ⟨e2,hF⟩⟩
   ·obtain⟨h1,h2,h3⟩:=H.new _ j e he hj;exact⟨h1,h2,by rw[List.getElem?_append_left (List.getElem?_eq_some_iff.1 h3).1];exact h3⟩) ks hk
 exact h.2
variable {L:Nat→List En}{Cl:Nat→Nat→Prop}{V:Nat→Nat→Nat→ByteArray→Prop}{i n:Nat}{p:PS}
def PtQ (L:Nat→List En)(Cl:Nat→Nat→Prop)(V:Nat→Nat→Nat→ByteArray→Prop)(Fl:Prop)(i n m:Nat):PS→Prop
 |⟨.inl none⟩=>False
 |⟨.inl (some (o,id))⟩=>(∃e,(L o)[id]?=some e∧e.i=i∧e.n=n∧e.m=m)∧¬Cl o id
 |⟨.inr (some (st,v))⟩=>V n m st v
 |⟨.inr none⟩=>Fl
theorem PtQ.ext {L':Nat→List En}{Fl:Prop}{m:Nat}(h:PtQ L Cl V Fl i n m p)(k:Ext L L'):PtQ L' Cl V Fl i n m p:=by
 cases p using PS.el with
 |op o id=>
  obtain⟨⟨e,h1,h2⟩,h3⟩:=h;exact⟨⟨e,k.get h1,h2⟩,h3⟩
 |_=>exact h
def CmPt (d:Int)(cs:List Cmd)(Q:Nat→Nat→PS→Prop)(qs:List QS)(a:Nat):Prop:=∀(k:Nat) (x:QS),qs[k]?=some x→∃c,cs[a+k]?=some c∧x.c=cmdN d (a+k) c∧x.ps.length=c.keys.length∧∀(m:Nat) (p:PS),x.ps[m]?=some p→Q (a+k) m p
structure CL (d:Int)(cs:List Cmd)(rest:List UInt8)(Q:Nat→Nat→PS→Prop)(P:List UInt8→Nat→Prop)(s:CliQ)(a:Nat):Prop where
 di:s.d=d
 ps0:s.st.pass=false
 cl0:s.st.closed=false
 cm:CmPt d cs Q s.qs a
 tx:s.st.held++rest=asksFrom d (a+s.qs.length) (cs.drop (a+s.qs.length))
 le:a+s.qs.length≤cs.length
 td:P s.told a
def TellV (d:Int)(cs:List Cmd)(V:Nat→Nat→Nat→ByteArray→Prop)(Fl:Prop)(P:List UInt8→Nat→Prop):Prop:=∀(told:List UInt8) (a:Nat) (c:Cmd) (ps:List PS),cs[a]?=some c→ps.length=c.keys.length→(∀(m:Nat) (p:PS),ps[m]?=some p→(∃st v,p= .an st v∧V a m st v)∨(p= .fl∧Fl))→P told a→P (told++(toldB d ⟨cmdN d a c,ps⟩).data.toList) (a+1)
theorem no_open {x:QS}(h:x.n=0)(hp:p∈x.ps):p≠ .un∧∀o id,p≠ .op o id:=by
 unfold QS.n at h;rw[List.countP_eq_zero]at h;have:=h p hp;cases p using PS.el<;>simp[PS.opn]at this⊢
theorem tellL_inv {d:Int}{cs:List Cmd}{Fl:Prop}{P:List UInt8→Nat→Prop}(hP:TellV d cs V Fl P):∀(qs:List QS) (told:List UInt8) (a:Nat),CmPt d cs (PtQ L Cl V Fl i) qs a→P told a→∃r,r≤qs.length∧(tellQ d qs told).1=qs.drop r∧P (tellQ d qs told).2 (a+r)∧HeadO (qs.drop r)∧∀k x,k<r→qs[k]?=some x→x.n=0:=by
 intro qs;induction qs with
 |nil=>intro told a h1 h2;exact⟨0,Nat.le_refl _,rfl,h2,fun x l e=>(by cases e),fun k x h=>(by omega)⟩
 |cons x qs ih=>
  intro told a h1 h2;unfold tellQ;split
  ·rename_i hn;obtain⟨c,e1,e2,e3,e4⟩:=h1 0 x rfl;rw[Nat.add_zero]at e1 e2 e4;have hx:x=⟨cmdN d a c,x.ps⟩:=by rw[←e2]
   have h3:=hP told a c x.ps e1 e3 (fun m p hp=>by
    obtain⟨n1,n2⟩:=no_open hn (List.mem_of_getElem? hp);have:=e4 m p hp;cases p using PS.el with
    |un=>exact absurd rfl n1
    |op o id=>exact absurd rfl (n2 o id)
    |an st v=>exact .inl ⟨st,v,rfl,this⟩
    |fl=>exact .inr ⟨rfl,this⟩) h2
   rw[←hx]at h3;obtain⟨r,b1,b2,b3,b4,b5⟩:=ih (told++(toldB d x).data.toList) (a+1) (fun k y hy=>by
    obtain⟨c,f1,f2⟩:=h1 (k+1) y (by simpa using hy);rw[show a+(k+1)=a+1+k by omega]at f1 f2;exact⟨c,f1,f2⟩) h3
   refine⟨r+1,by rw[List.length_cons];omega,b2,by rw[show a+(r+1)=a+1+r by omega];exact b3,b4,fun k y hk hy=>?_⟩;cases k with
   |zero=>simp at hy;rw[←hy];exact hn
   |succ k=>exact b5 k y (by omega) (by simpa using hy)
  ·rename_i hn;refine⟨0,Nat.zero_le _,rfl,h2,fun y l e=>?_,fun k x h=>(by omega)⟩;cases e;exact hn
def NewE (i n:Nat)(L L':Nat→List En):Prop:=∀(o j:Nat) (e:En),(L' o)[j]?=some e→(L o).length≤j→e.i=i∧n≤e.n
theorem NewE.refl (i n:Nat)(L:Nat→List En):NewE i n L L:=fun o j e he hj=>by
 have:=(List.getElem?_eq_some_iff.1 he).1
 omega
theorem NewE.trans {n':Nat}{A B C:Nat→List En}(h:NewE i n A B)(k:NewE i n' B C)(hn:n≤n')(hx:Ext B C):NewE i n A C:=fun o j e he hj=>by
 by_cases hb:(B o).length≤j
 ·obtain⟨h1,h2⟩:=k o j e he hb;exact⟨h1,by omega⟩
 ·refine h o j e ?_ hj;obtain⟨t,ht⟩:=hx o;rw[ht,List.getElem?_append_left (by omega)]at he;exact he
structure SvL (Fl:Prop)(sv pt i:Nat)(d:Int)(cs:List Cmd)(rest:List UInt8)(V:Nat→Nat→Nat→ByteArray→Prop)(Cl:Nat→Nat→Prop)(P:List UInt8→Nat→Prop)(N:Nat→List En)(ex:List (Nat×Nat))(s:CliQ)(ss:List SrvQ)(L:Nat→List En)(a:Nat):Prop where
 cl:CL d cs rest (PtQ L Cl V Fl i) P s a
 lg:LgI Fl sv pt (updF N i (partsN i cs (a+s.qs.length))) L
 sr:SrvsL ss L
 len:ss.length=sv
 up:¬Fl→∀o,o<sv→upAt ss o
 opn:¬Fl→∀(o id:Nat) (e:En),(L o)[id]?=some e→e.i=i→¬Cl o id→a≤e.n∧∃x,s.qs[e.n-a]?=some x∧x.ps[e.m]?=some (.op o id)
 clb:∀o id,Cl o id→id<(L o).length
 ex:∀o id,(o,id)∈ex→id<(L o).length
section
variable {Fl:Prop}{sv pt win i:Nat}{d:Int}{cs:List Cmd}{rest:List UInt8}{V:Nat→Nat→Nat→ByteArray→Prop}{Cl:Nat→Nat→Prop}{P:List UInt8→Nat→Prop}{N:Nat→List En}{ex:List (Nat×Nat)}{s:CliQ}{ss:List SrvQ}{L:Nat→List En}{a:Nat}
theorem SvL.tell (h:SvL Fl sv pt i d cs rest V Cl P N ex s ss L a)(hP:TellV d cs V Fl P):∃a',SvL Fl sv pt i d cs rest V Cl P N ex (tellQs s) ss L a'∧a≤a'∧a'+(tellQs s).qs.length=a+s.qs.length∧HeadO (tellQs s).qs:=by
 obtain⟨r,b1,b2,b3,b4,b5⟩:=tellL_inv hP s.qs s.told a h.cl.cm h.cl.td;have hd:=h.cl.di;have e1:(tellQs s).qs=s.qs.drop r:=by show(tellQ s.d s.qs s.told).1=_;rw[hd];exact b2
 have e2:(tellQs s).told=(tellQ d s.qs s.told).2:=by show(tellQ s.d s.qs s.told).2=_;rw[hd]
 have hlen:a+r+(s.qs.drop r).length=a+s.qs.length:=by rw[List.length_drop];omega
 have hcm:CmPt d cs (PtQ L Cl V Fl i) (s.qs.drop r) (a+r):=fun k x hx=>by
  rw[List.getElem?_drop]at hx;rw[Nat.add_assoc];exact h.cl.cm (r+k) x hx
 refine⟨a+r,⟨⟨hd,h.cl.ps0,h.cl.cl0,by rw[e1];exact hcm,?_,?_,by rw[e2];exact b3⟩,?_,h.sr,h.len,h.up,fun hF o id e he hi hc=>?_,h.clb,h.ex⟩,by omega,by rw[e1];exact hlen,by rw[e1];exact b4⟩
 ·rw[e1,hlen];exact h.cl.tx
 ·rw[e1,hlen];exact h.cl.le
 ·rw[e1,hlen];exact h.lg
 ·obtain⟨g1,x,g2,g3⟩:=h.opn hF o id e he hi hc;have hr:r≤e.n-a:=Classical.byContradiction fun hn=>(no_open (b5 _ x (by omega) g2) (List.mem_of_getElem? g3)).2 o id rfl
  refine⟨by omega,x,?_,g3⟩;rw[e1,List.getElem?_drop,show r+(e.n-(a+r))=e.n-a by omega];exact g2
theorem CL.toC {Q:Nat→Nat→PS→Prop}(h:CL d cs rest Q P s a):CInv d cs rest (fun _ _=>True) P s a:=
 ⟨h.di,h.ps0,h.cl0,fun k x hx=>by obtain⟨c,e1,e2,e3,_⟩:=h.cm k x hx;exact⟨c,e1,e2,e3,fun _ _=>trivial⟩,h.tx,h.le,h.td⟩
theorem SvL.got (h:SvL Fl sv pt i d cs rest V Cl P N ex s ss L a)(hd:d=1∨d=2∨d=3)(hg:∀x∈cs,GoodC d x)(hl:cs.length≤40)(hsv:1≤sv)(hi:i<4)(hN:∀i,(N i).length≤160){x:StepR}(hr:readR s.d s.st.held=some x):∃L',SvL Fl sv pt i d cs rest V Cl P N ex (gotQ sv pt ex s ss x).1 (gotQ sv pt ex s ss x).2 L' a∧Ext L L'∧NewE i (a+s.qs.length) L L':=by
 obtain⟨c,e1,e2,e3,e4⟩:=h.cl.toC.read hd hg (by omega) hr;have A:=askable_of (hg c (List.mem_of_getElem? e1)).cmd;have hlt:=(List.getElem?_eq_some_iff.1 e1).1;have hk4:∀c∈cs,c.keys.length≤4:=fun c hc=>(askable_of (hg c hc).cmd).len4
 have hNN:∀j,(updF N i (partsN i cs (a+s.qs.length)) j).length≤160:=fun j=>by
  unfold updF;split
  ·have:=partsN_len (i:=i) hk4 (a+s.qs.length);omega
  ·exact hN j
 obtain⟨L',H⟩:=sends_log hsv h.len h.up h.lg h.sr (ex++opQs s.qs) (fun o id hm=>by
  rcases List.mem_append.1 hm with e|e
  ·exact h.ex o id e
  ·obtain⟨y,hy,hp⟩:=mem_opQs.1 e;obtain⟨k,hk⟩:=List.mem_iff_getElem?.1 hy;obtain⟨m,hm⟩:=List.mem_iff_getElem?.1 hp;obtain⟨_,_,_,_,e4⟩:=h.cl.cm k y hk;obtain⟨⟨en,h1,_⟩,_⟩:=e4 m _ hm;exact(List.getElem?_eq_some_iff.1 h1).1) (a+s.qs.length) c.kind c.val hi hNN c.keys A.len4
 have ec:(gotQ sv pt ex s ss x).1.qs=s.qs++[⟨x.c,(sendsK sv pt c.kind c.val (ex++opQs s.qs) ss c.keys).2⟩]:=by
  unfold gotQ;rw[e2];rfl
 have es:(gotQ sv pt ex s ss x).2=(sendsK sv pt c.kind c.val (ex++opQs s.qs) ss c.keys).1:=by
  unfold gotQ;rw[e2];rfl
 have hlen:(gotQ sv pt ex s ss x).1.qs.length=s.qs.length+1:=by rw[ec];simp
 have hin:SameIn ss (gotQ sv pt ex s ss x).2:=by rw[es];exact sendsK_in _ _ _ _ _ _ _
 generalize sendsK sv pt c.kind c.val (ex++opQs s.qs) ss c.keys=ST at*;refine⟨L',⟨⟨h.cl.di,by show(afterS s.st x).pass=false;rw[e3],by show(afterS s.st x).closed=false;rw[e3],fun k y hy=>?_,?_,by rw[hlen];omega,h.cl.td⟩,?_,by rw[es];exact H.sr,by rw[hin.1];exact h.len,fun hF o ho=>(upAt_same hin).1 (h.up hF o ho),fun hF o id e he hi hc=>?_,fun o id hc=>Nat.lt_of_lt_of_le (h.clb o id hc) (H.ext.len o),fun o id hm=>Nat.lt_of_lt_of_le (h.ex o id hm) (H.ext.len o)⟩,H.ext,fun o j e he hj=>?_⟩
 ·rw[ec]at hy;by_cases hk:k<s.qs.length
  ·rw[List.getElem?_append_left hk]at hy;obtain⟨c,f1,f2,f3,f4⟩:=h.cl.cm k y hy;exact⟨c,f1,f2,f3,fun m p hp=>(f4 m p hp).ext H.ext⟩
  ·rw[List.getElem?_append_right (by omega)]at hy;cases hj:k-s.qs.length with
   |succ j=>rw[hj]at hy;simp at hy
   |zero=>
    rw[hj]at hy;simp at hy;have hk2:k=s.qs.length:=by omega
    subst hk2;refine⟨c,e1,by rw[←hy];exact e2,by rw[←hy];exact H.len,fun m p hp=>?_⟩;rw[←hy]at hp;obtain⟨key,h1,h2|⟨id,h2,h3,h4⟩⟩:=H.ps m p hp
    ·rw[h2.1];exact h2.2
    ·rw[h2];exact⟨⟨_,h4,rfl,rfl,rfl⟩,fun hc=>by have:=h.clb _ _ hc;omega⟩
 ·rw[hlen];show(afterS s.st x).held++rest=_;rw[e3];exact e4
 ·rw[hlen];have:=H.lg;rw[updF_same,←partsN_succ e1]at this;have e:updF (updF N i (partsN i cs (a+s.qs.length))) i (partsN i cs (a+s.qs.length+1))=updF N i (partsN i cs (a+(s.qs.length+1))):=by
   funext j;unfold updF;split<;>rfl
  rw[e]at this;exact this
 ·rw[ec];by_cases hj:(L o).length≤id
  ·obtain⟨h1,h2,h3⟩:=H.new o id e he hj;refine⟨by omega,⟨x.c,ST.2⟩,?_,h3⟩;rw[h2,show a+s.qs.length-a=s.qs.length by omega];simp
  ·have he':(L o)[id]?=some e:=by
    obtain⟨t,ht⟩:=H.ext o;rw[ht,List.getElem?_append_left (by omega)]at he;exact he
   obtain⟨g1,y,g2,g3⟩:=h.opn hF o id e he' hi hc;exact⟨g1,y,by rw[List.getElem?_append_left (List.getElem?_eq_some_iff.1 g2).1];exact g2,g3⟩
 ·obtain⟨h1,h2,_⟩:=H.new o j e he hj;exact⟨h1,by omega⟩
theorem SvL.serv (hd:d=1∨d=2∨d=3)(hg:∀x∈cs,GoodC d x)(hl:cs.length≤40)(hP:TellV d cs V Fl P)(hsv:1≤sv)(hi:i<4)(hN:∀i,(N i).length≤160):∀(f:Nat) (s:CliQ) (ss:List SrvQ) (L:Nat→List En) (a:Nat),SvL Fl sv pt i d cs rest V Cl P N ex s ss L a→HeadO s.qs→s.st.held.length≤f→∃L' a',SvL Fl sv pt i d cs rest V Cl P N ex (servF sv pt win ex f s ss).1 (servF sv pt win ex f s ss).2 L' a'∧Ext L L'∧NewE i (a+s.qs.length) L L'∧a≤a'∧a+s.qs.length≤a'+(servF sv pt win ex f s ss).1.qs.length∧NormC win (servF sv pt win ex f s ss).1:=by
 intro f;induction f with
 |zero=>
  intro s ss L a h1 h3 hf;refine⟨L,a,h1,Ext.refl _,NewE.refl _ _ _,Nat.le_refl _,Nat.le_refl _,h3,fun _=>?_⟩;have h0:s.st.held=[]:=List.length_eq_zero_iff.1 (by omega);show readR s.d s.st.held=none;rw[h0,readR_nil]
 |succ f ih=>
  intro s ss L a h1 h3 hf;unfold servF;split
  ·cases hr:readR s.d s.st.held with
   |none=>exact⟨L,a,h1,Ext.refl _,NewE.refl _ _ _,Nat.le_refl _,Nat.le_refl _,h3,fun _=>hr⟩
   |some x=>
    simp only
    have hlen:=afterS_len hr;obtain⟨L1,g1,g2,g3⟩:=h1.got hd hg hl hsv hi hN hr;obtain⟨a1,t1,t2,t3,t4⟩:=g1.tell hP;have hl1:(gotQ sv pt ex s ss x).1.qs.length=s.qs.length+1:=by simp[gotQ]
    obtain⟨L2,a2,k1,k2,k3,k4,k5,k6⟩:=ih _ _ L1 a1 t1 t4 (by show(afterS s.st x).held.length≤f;omega);exact⟨L2,a2,k1,g2.trans k2,g3.trans k3 (by omega) k2,by omega,by omega,k6⟩
  ·rename_i hw;exact⟨L,a,h1,Ext.refl _,NewE.refl _ _ _,Nat.le_refl _,Nat.le_refl _,h3,fun h=>absurd h hw⟩
end
variable {cs:List CliQ}{i o id:Nat}{u:SrvQ}
structure PlyL where
 d:Nat→Int
 cs:Nat→List Cmd
 V:Nat→Nat→Nat→Nat→ByteArray→Prop
 P:Nat→List UInt8→Nat→Prop
 Fl:Prop
structure PlyLOk (q:PlyL):Prop where
 hd:∀i,q.d i=1∨q.d i=2∨q.d i=3
 hg:∀i,∀x∈q.cs i,GoodC (q.d i) x
 hl:∀i,(q.cs i).length≤40
 hP:∀i,TellV (q.d i) (q.cs i) (q.V i) q.Fl (q.P i)
def rdN (A:Nat→Nat)(cs:List CliQ)(i:Nat):Nat:=match cs[i]?with
 |some s=>A i+s.qs.length
 |none=>0
theorem rdN_some {A:Nat→Nat}{s:CliQ}(h:cs[i]?=some s):rdN A cs i=A i+s.qs.length:=by unfold rdN;rw[h]
structure JI (q:PlyL)(sv pt win:Nat)(rest:Nat→List UInt8)(F:Nat→Prop)(Cl:Nat→Nat→Prop)(st:List CliQ×List SrvQ)(L:Nat→List En)(A:Nat→Nat):Prop where
 cli:∀(i:Nat) (s:CliQ),st.1[i]?=some s→CL (q.d i) (q.cs i) (rest i) (PtQ L Cl (q.V i) q.Fl i) (q.P i) s (A i)∧(F i→NormC win s)
 lg:LgI q.Fl sv pt (fun i=>partsN i (q.cs i) (rdN A st.1 i)) L
 sr:SrvsL st.2 L
 len:st.2.length=sv
 up:¬q.Fl→∀o,o<sv→upAt st.2 o
 opn:¬q.Fl→∀(o id:Nat) (e:En),(L o)[id]?=some e→¬Cl o id→∃s x,st.1[e.i]?=some s∧A e.i≤e.n∧s.qs[e.n-A e.i]?=some x∧x.ps[e.m]?=some (.op o id)
 clb:∀o id,Cl o id→id<(L o).length
 c4:st.1.length≤4
 s1:1≤sv
structure Adv (st:List CliQ×List SrvQ)(L:Nat→List En)(A:Nat→Nat)(st':List CliQ×List SrvQ)(L':Nat→List En)(A':Nat→Nat):Prop where
 ext:Ext L L'
 al:∀i,A i≤A' i
 rl:∀i,rdN A st.1 i≤rdN A' st'.1 i
 new:∀(o j:Nat) (e:En),(L' o)[j]?=some e→(L o).length≤j→rdN A st.1 e.i≤e.n
theorem Adv.refl (st:List CliQ×List SrvQ)(L:Nat→List En)(A:Nat→Nat):Adv st L A st L A:=⟨Ext.refl _,fun _=>Nat.le_refl _,fun _=>Nat.le_refl _,fun o j e he hj=>by have:=(List.getElem?_eq_some_iff.1 he).1;omega⟩
section
variable {q:PlyL}{sv pt win:Nat}{rest:Nat→List UInt8}{F:Nat→Prop}{Cl:Nat→Nat→Prop}{st:List CliQ×List SrvQ}{L:Nat→List En}{A:Nat→Nat}
theorem JI.opId (h:JI q sv pt win rest F Cl st L A)(hs:∀s∈cs,s∈st.1)(hm:(o,id)∈opJ cs):id<(L o).length:=by
 obtain⟨s,h1,x,h2,h3⟩:=mem_opJ.1 hm;obtain⟨i,hi⟩:=List.mem_iff_getElem?.1 (hs s h1);obtain⟨k,hk⟩:=List.mem_iff_getElem?.1 h2;obtain⟨m,hm⟩:=List.mem_iff_getElem?.1 h3;obtain⟨_,_,_,_,e4⟩:=(h.cli i s hi).1.cm k x hk;obtain⟨⟨en,g1,_⟩,_⟩:=e4 m _ hm;exact(List.getElem?_eq_some_iff.1 g1).1
theorem JI.run (hq:PlyLOk q)(h:JI q sv pt win rest F Cl st L A)(i:Nat):∃L' A',JI q sv pt win rest (fun j=>F j∨j=i) Cl (runJ sv pt win i st) L' A'∧Adv st L A (runJ sv pt win i st) L' A':=by
 have hin:=runJ_in sv pt win i st;unfold runJ at hin⊢;cases hs:st.1[i]?with
 |none=>
  simp only[hs]at hin⊢;refine⟨L,A,⟨fun j s hj=>?_,h.lg,h.sr,h.len,h.up,h.opn,h.clb,h.c4,h.s1⟩,Adv.refl _ _ _⟩;obtain⟨h1,h3⟩:=h.cli j s hj;refine⟨h1,fun hf=>?_⟩;rcases hf with e|e
  ·exact h3 e
  ·rw[e,hs]at hj;cases hj
 |some s=>
  simp only[hs]at hin⊢;have hil:=(List.getElem?_eq_some_iff.1 hs).1;have hc4:=h.c4;have hk4:∀j,∀c∈q.cs j,c.keys.length≤4:=fun j c hc=>(askable_of (hq.hg j c hc).cmd).len4
  have hN:∀j,(partsN j (q.cs j) (rdN A st.1 j)).length≤160:=fun j=>by
   have h1:=partsN_len (i:=j) (hk4 j) (rdN A st.1 j);have h2:rdN A st.1 j≤40:=by
    unfold rdN;split
    ·rename_i s' hs';exact Nat.le_trans (h.cli j s' hs').1.le (hq.hl j)
    ·omega
   omega
  have hS:SvL q.Fl sv pt i (q.d i) (q.cs i) (rest i) (q.V i) Cl (q.P i) (fun i=>partsN i (q.cs i) (rdN A st.1 i)) (exAt st.1 i) s st.2 L (A i):=by
   refine⟨(h.cli i s hs).1,?_,h.sr,h.len,h.up,fun hF o id e he hi hc=>?_,h.clb,fun o id hm=>?_⟩
   ·have e:updF (fun i=>partsN i (q.cs i) (rdN A st.1 i)) i (partsN i (q.cs i) (A i+s.qs.length))=fun i=>partsN i (q.cs i) (rdN A st.1 i):=by
     funext j;unfold updF;split
     ·rename_i e;rw[e,rdN_some hs]
     ·rfl
    rw[e];exact h.lg
   ·obtain⟨s',x,g1,g2,g3,g4⟩:=h.opn hF o id e he hc;rw[hi]at g1 g2 g3;rw[hs]at g1;cases g1;exact⟨g2,x,g3,g4⟩
   ·rcases List.mem_append.1 hm with e|e
    ·exact h.opId (fun s hs=>List.mem_of_mem_take hs) e
    ·exact h.opId (fun s hs=>List.mem_of_mem_drop hs) e
  obtain⟨a1,t1,t2,t3,t4⟩:=hS.tell (hq.hP i);obtain⟨L',a',k1,k2,k3,k4,k5,k6⟩:=SvL.serv (win:=win) (hq.hd i) (hq.hg i) (hq.hl i) (hq.hP i) h.s1 (by omega) hN _ (tellQs s) st.2 L a1 t1 t4 (Nat.le_refl _);have hqe:servF sv pt win (exAt st.1 i) (tellQs s).st.held.length (tellQs s) st.2=servQ sv pt win (exAt st.1 i) (tellQs s) st.2:=rfl;rw[hqe]at k1 k5 k6;generalize servQ sv pt win (exAt st.1 i) (tellQs s) st.2=Z at*;have hset:(st.1.set i Z.1)[i]?=some Z.1:=List.getElem?_set_self hil;have hoth:∀j,j≠i→(st.1.set i Z.1)[j]?=st.1[j]?:=fun j hj=>List.getElem?_set_ne (fun e=>hj e.symm)
  have hrd:∀j,j≠i→rdN (updF A i a') (st.1.set i Z.1) j=rdN A st.1 j:=fun j hj=>by unfold rdN;rw[hoth j hj,updF_ne _ _ hj]
  have hri:rdN (updF A i a') (st.1.set i Z.1) i=a'+Z.1.qs.length:=by rw[rdN_some hset,updF_same]
  refine⟨L',updF A i a',⟨fun j s' hj=>?_,?_,k1.sr,k1.len,k1.up,fun hF o id e he hc=>?_,k1.clb,by rw[List.length_set];exact hc4,h.s1⟩,⟨k2,fun j=>?_,fun j=>?_,fun o j e he hj=>?_⟩⟩
  ·by_cases e:j=i
   ·subst e;have e2:s'=Z.1:=by rw[show(st.1.set j Z.1,Z.2).1=st.1.set j Z.1 from rfl,hset]at hj;cases hj;rfl
    rw[e2,updF_same];exact⟨k1.cl,fun _=>k6⟩
   ·have hj':st.1[j]?=some s':=by rw[←hoth j e];exact hj
    obtain⟨g1,g3⟩:=h.cli j s' hj';rw[updF_ne _ _ e];refine⟨⟨g1.di,g1.ps0,g1.cl0,fun k x hx=>?_,g1.tx,g1.le,g1.td⟩,fun hf=>g3 (by rcases hf with e1|e1;exact e1;exact absurd e1 e)⟩;obtain⟨c,f1,f2,f3,f4⟩:=g1.cm k x hx;exact⟨c,f1,f2,f3,fun m p hp=>(f4 m p hp).ext k2⟩
  ·have e:(fun j=>partsN j (q.cs j) (rdN (updF A i a') (st.1.set i Z.1) j))=updF (fun i=>partsN i (q.cs i) (rdN A st.1 i)) i (partsN i (q.cs i) (a'+Z.1.qs.length)):=by
    funext j;unfold updF;split
    ·rename_i e;rw[e];have:=hri;unfold updF at this;rw[this]
    ·rename_i e;have:=hrd j e;unfold updF at this;rw[this]
   show LgI q.Fl sv pt (fun j=>partsN j (q.cs j) (rdN (updF A i a') (st.1.set i Z.1) j)) L';rw[e];exact k1.lg
  ·by_cases ei:e.i=i
   ·obtain⟨g1,x,g2,g3⟩:=k1.opn hF o id e he ei hc;rw[ei,updF_same];exact⟨Z.1,x,hset,g1,g2,g3⟩
   ·have hjl:¬(L o).length≤id:=fun hj=>ei (k3 o id e he hj).1
    have he':(L o)[id]?=some e:=by
     obtain⟨t,ht⟩:=k2 o;rw[ht,List.getElem?_append_left (by omega)]at he;exact he
    obtain⟨s',x,g1,g2,g3,g4⟩:=h.opn hF o id e he' hc;rw[updF_ne _ _ ei];exact⟨s',x,(hoth _ ei).trans g1,g2,g3,g4⟩
  ·by_cases e:j=i
   ·rw[e,updF_same];omega
   ·rw[updF_ne _ _ e];exact Nat.le_refl _
  ·show _≤rdN (updF A i a') (st.1.set i Z.1) j;by_cases e:j=i
   ·rw[e,hri,rdN_some hs];omega
   ·rw[hrd j e];exact Nat.le_refl _
  ·obtain⟨h1,h2⟩:=k3 o j e he hj;rw[h1,rdN_some hs];omega
theorem JI.more {G:Nat→Prop}(h:JI q sv pt win rest F Cl st L A)(hg:∀i,i<st.1.length→G i→F i):JI q sv pt win rest G Cl st L A:=
 ⟨fun i s hs=>⟨(h.cli i s hs).1,fun hG=>(h.cli i s hs).2 (hg i (List.getElem?_eq_some_iff.1 hs).1 hG)⟩,h.lg,h.sr,h.len,h.up,h.opn,h.clb,h.c4,h.s1⟩
theorem JI.said (hq:PlyLOk q)(h:JI q sv pt win rest (fun _=>True) Cl st L A){piece r:List UInt8}(hr:rest i=piece++r):∃L' A',JI q sv pt win (fun j=>if j=i then r else rest j) (fun _=>True) Cl (saidJ sv pt win i piece st) L' A'∧Adv st L A (saidJ sv pt win i piece st) L' A':=by
 unfold saidJ;split
 ·rename_i hs;refine⟨L,A,⟨fun j s hj=>?_,h.lg,h.sr,h.len,h.up,h.opn,h.clb,h.c4,h.s1⟩,Adv.refl _ _ _⟩;have hne:j≠i:=fun e=>by rw[e,hs]at hj;cases hj
  rw[if_neg hne];exact h.cli j s hj
 ·rename_i s hs;have hil:=(List.getElem?_eq_some_iff.1 hs).1;have hset:(st.1.set i (tookQ s piece))[i]?=some (tookQ s piece):=List.getElem?_set_self hil;have hoth:∀j,j≠i→(st.1.set i (tookQ s piece))[j]?=st.1[j]?:=fun j hj=>List.getElem?_set_ne (fun e=>hj e.symm)
  have hrd:∀j,rdN A (st.1.set i (tookQ s piece)) j=rdN A st.1 j:=fun j=>by
   by_cases e:j=i
   ·rw[e,rdN_some hset,rdN_some hs];rfl
   ·unfold rdN;rw[hoth j e]
  have h0:JI q sv pt win (fun j=>if j=i then r else rest j) (fun j=>j≠i) Cl (st.1.set i (tookQ s piece),st.2) L A:=by
   refine⟨fun j s' hj=>?_,?_,h.sr,h.len,h.up,fun hF o id e he hc=>?_,h.clb,by rw[List.length_set];exact h.c4,h.s1⟩
   ·by_cases e:j=i
    ·subst e;have e2:s'=tookQ s piece:=by rw[show(st.1.set j (tookQ s piece),st.2).1=st.1.set j (tookQ s piece)from rfl,hset]at hj;cases hj;rfl
     subst e2;obtain⟨h1,_⟩:=h.cli j s hs;have ht:takeS s.st piece=⟨s.st.held++piece,false,false⟩:=by unfold takeS;rw[h1.cl0,h1.ps0];simp
     refine⟨⟨h1.di,by show(takeS s.st piece).pass=false;rw[ht],by show(takeS s.st piece).closed=false;rw[ht],h1.cm,?_,h1.le,h1.td⟩,fun e=>absurd rfl e⟩;show(takeS s.st piece).held++(if j=j then r else rest j)=_;rw[if_pos rfl,ht,List.append_assoc,←hr];exact h1.tx
    ·have hj':st.1[j]?=some s':=by rw[←hoth j e];exact hj
     rw[if_neg e];exact⟨(h.cli j s' hj').1,fun _=>(h.cli j s' hj').2 trivial⟩
   ·have e:(fun j=>partsN j (q.cs j) (rdN A (st.1.set i (tookQ s piece)) j))=fun j=>partsN j (q.cs j) (rdN A st.1 j):=by funext j;rw[hrd j]
    show LgI q.Fl sv pt (fun j=>partsN j (q.cs j) (rdN A (st.1.set i (tookQ s piece)) j)) L;rw[e];exact h.lg
   ·obtain⟨s',x,g1,g2,g3,g4⟩:=h.opn hF o id e he hc;by_cases ei:e.i=i
    ·rw[ei,hs]at g1;cases g1;exact⟨tookQ s piece,x,by rw[ei];exact hset,g2,g3,g4⟩
    ·exact⟨s',x,(hoth _ ei).trans g1,g2,g3,g4⟩
  obtain⟨L',A',k1,k2⟩:=h0.run hq i;refine⟨L',A',k1.more (fun j _ _=>by by_cases hj:j=i;exact .inr hj;exact .inl hj),k2.ext,k2.al,fun j=>?_,fun o j e he hj=>?_⟩
  ·have:=k2.rl j;rw[←hrd j];exact this
  ·have:=k2.new o j e he hj;rw[←hrd e.i];exact this
theorem JI.an (hq:PlyLOk q)(h:JI q sv pt win rest (fun _=>True) Cl st L A){k m stt:Nat}{v:ByteArray}{used:Nat}(hu:st.2[o]?=some u)(hf:findP o id st.1 0=some (i,k,m))(hv:q.V i (A i+k) m stt v)(hld:List UInt8):∃L' A',JI q sv pt win rest (fun _=>True) (fun o' id'=>Cl o' id'∨(o'=o∧id'=id)) (runJ sv pt win i (anJ st.1 i k m ⟨stt,id,v,used⟩,st.2.set o {u with held:=hld})) L' A'∧Adv st L A (runJ sv pt win i (anJ st.1 i k m ⟨stt,id,v,used⟩,st.2.set o {u with held:=hld})) L' A':=by
 obtain⟨j,s,x,e0,hs,hx,hxm⟩:=findP_some o id st.1 0 i k m hf;rw[Nat.zero_add]at e0;subst e0;have eA:anJ st.1 i k m ⟨stt,id,v,used⟩=st.1.set i {s with qs:=s.qs.set k ⟨x.c,x.ps.set m (.an stt v)⟩}:=by unfold anJ;rw[hs];simp only;unfold anC;rw[hx]
 rw[eA];generalize hs':({s with qs:=s.qs.set k ⟨x.c,x.ps.set m (.an stt v)⟩}:CliQ)=s';have hql:s'.qs=s.qs.set k ⟨x.c,x.ps.set m (.an stt v)⟩:=by rw[←hs']
 have hlen:s'.qs.length=s.qs.length:=by rw[hql];simp
 have hil:=(List.getElem?_eq_some_iff.1 hs).1;have hkl:=(List.getElem?_eq_some_iff.1 hx).1;have hml:=(List.getElem?_eq_some_iff.1 hxm).1;have hset:(st.1.set i s')[i]?=some s':=List.getElem?_set_self hil;have hoth:∀j,j≠i→(st.1.set i s')[j]?=st.1[j]?:=fun j hj=>List.getElem?_set_ne (fun e=>hj e.symm)
 have hrd:∀j,rdN A (st.1.set i s') j=rdN A st.1 j:=fun j=>by
  by_cases e:j=i
  ·rw[e,rdN_some hset,rdN_some hs,hlen]
  ·unfold rdN;rw[hoth j e]
 obtain⟨c0,c1,c2,c3,c4⟩:=(h.cli i s hs).1.cm k x hx;obtain⟨⟨en,n1,n2,n3,n4⟩,n5⟩:=c4 m _ hxm;have only:∀(i':Nat) (t:CliQ) (k':Nat) (y:QS) (m':Nat),st.1[i']?=some t→t.qs[k']?=some y→y.ps[m']?=some (.op o id)→i'=i∧k'=k∧m'=m:=fun i' t k' y m' g1 g2 g3=>by
  obtain⟨_,_,_,_,f4⟩:=(h.cli i' t g1).1.cm k' y g2;obtain⟨⟨en',f1,f2,f3,f5⟩,_⟩:=f4 m' _ g3;rw[n1]at f1;cases f1;have:i'=i:=by rw[←f2,n2]
  subst this;exact⟨rfl,by omega,by omega⟩
 have ptq:∀(i':Nat) (n' m':Nat) (p:PS),PtQ L Cl (q.V i') q.Fl i' n' m' p→(p= .op o id→False)→PtQ L (fun o' id'=>Cl o' id'∨(o'=o∧id'=id)) (q.V i') q.Fl i' n' m' p:=fun i' n' m' p hp hn=>by
  cases p using PS.el with
  |op a b=>
   refine⟨hp.1,fun hc=>?_⟩;rcases hc with e|⟨e1,e2⟩
   ·exact hp.2 e
   ·exact hn (by rw[e1,e2])
  |_=>exact hp
 have hup:∀b,upAt st.2 b→upAt (st.2.set o {u with held:=hld}) b:=fun b hb=>by
  obtain⟨v,v1,v2⟩:=hb;by_cases hbo:b=o
  ·subst hbo;rw[hu]at v1;cases v1;exact⟨_,List.getElem?_set_self (List.getElem?_eq_some_iff.1 hu).1,v2⟩
  ·exact⟨v,by rw[List.getElem?_set_ne (fun e=>hbo e.symm)];exact v1,v2⟩
 have h0:JI q sv pt win rest (fun j=>j≠i) (fun o' id'=>Cl o' id'∨(o'=o∧id'=id)) (st.1.set i s',st.2.set o {u with held:=hld}) L A:=by
  refine⟨fun j t hj=>?_,?_,fun o' u' hu'=>?_,by rw[List.length_set];exact h.len,fun hF b hb=>hup b (h.up hF b hb),fun hF o' id' e he hc=>?_,fun o' id' hc=>?_,by rw[List.length_set];exact h.c4,h.s1⟩
  ·by_cases e:j=i
   ·subst e;have e2:t=s':=by rw[show(st.1.set j s',st.2.set o {u with held:=hld}).1=st.1.set j s' from rfl,hset]at hj;cases hj;rfl
    subst e2;obtain⟨h1,_⟩:=h.cli j s hs;refine⟨⟨by rw[←hs'];exact h1.di,by rw[←hs'];exact h1.ps0,by rw[←hs'];exact h1.cl0,fun k' y hy=>?_,by rw[hlen,←hs'];exact h1.tx,by rw[hlen];exact h1.le,by rw[←hs'];exact h1.td⟩,fun e=>absurd rfl e⟩;rw[hql]at hy;rcases get_set hy with⟨e1,e2⟩|⟨e1,e2⟩
    ·rw[e1,e2];refine⟨c0,c1,c2,by show(x.ps.set _ _).length=_;rw[List.length_set];exact c3,fun m' p hp=>?_⟩;rcases get_set (show(x.ps.set m (.an stt v))[m']?=some p from hp)with⟨f1,f2⟩|⟨f1,f2⟩
     ·rw[f1,f2];exact hv
     ·exact ptq _ _ _ _ (c4 m' p f2) (fun e=>f1 (only _ s k x m' hs hx (by rw[←e];exact f2)).2.2)
    ·obtain⟨c,f1,f2,f3,f4⟩:=h1.cm k' y e2;exact⟨c,f1,f2,f3,fun m' p hp=>ptq _ _ _ _ (f4 m' p hp) (fun e=>e1 (only _ s k' y m' hs e2 (by rw[←e];exact hp)).2.1)⟩
   ·have hj':st.1[j]?=some t:=by rw[←hoth j e];exact hj
    obtain⟨g1,g3⟩:=h.cli j t hj';refine⟨⟨g1.di,g1.ps0,g1.cl0,fun k' y hy=>?_,g1.tx,g1.le,g1.td⟩,fun _=>g3 trivial⟩;obtain⟨c,f1,f2,f3,f4⟩:=g1.cm k' y hy;exact⟨c,f1,f2,f3,fun m' p hp=>ptq _ _ _ _ (f4 m' p hp) (fun e'=>e (only j t k' y m' hj' hy (by rw[←e'];exact hp)).1)⟩
  ·have e:(fun j=>partsN j (q.cs j) (rdN A (st.1.set i s') j))=fun j=>partsN j (q.cs j) (rdN A st.1 j):=by funext j;rw[hrd j]
   show LgI q.Fl sv pt (fun j=>partsN j (q.cs j) (rdN A (st.1.set i s') j)) L;rw[e];exact h.lg
  ·rcases get_set (show(st.2.set o {u with held:=hld})[o']?=some u' from hu')with⟨e1,e2⟩|⟨e1,e2⟩
   ·rw[e1,e2];exact h.sr o u hu
   ·exact h.sr o' u' e2
  ·obtain⟨t,y,g1,g2,g3,g4⟩:=h.opn hF o' id' e he (fun hc'=>hc (.inl hc'));have hno:¬(o'=o∧id'=id):=fun hh=>hc (.inr hh)
   by_cases ei:e.i=i
   ·rw[ei]at g1 g2 g3;rw[hs]at g1;cases g1;by_cases ek:e.n-A i=k
    ·rw[ek,hx]at g3;cases g3;refine⟨s',⟨x.c,x.ps.set m (.an stt v)⟩,by rw[ei];exact hset,by rw[ei];exact g2,by rw[ei,ek,hql];exact List.getElem?_set_self hkl,?_⟩;show(x.ps.set m (.an stt v))[e.m]?=_;have em:m≠e.m:=fun em=>by
      rw[←em,hxm]at g4;have e3:=Option.some.inj g4;injection e3 with e3;injection e3 with e3;injection e3 with e3;injection e3 with e4 e5;exact hno ⟨e4.symm,e5.symm⟩
     rw[List.getElem?_set_ne em];exact g4
    ·exact⟨s',y,by rw[ei];exact hset,by rw[ei];exact g2,by rw[ei,hql,List.getElem?_set_ne (fun e=>ek e.symm)];exact g3,g4⟩
   ·exact⟨t,y,(hoth _ ei).trans g1,g2,g3,g4⟩
  ·rcases hc with e|⟨e1,e2⟩
   ·exact h.clb o' id' e
   ·rw[e1,e2];exact(List.getElem?_eq_some_iff.1 n1).1
 obtain⟨L',A',k1,k2⟩:=h0.run hq i;refine⟨L',A',k1.more (fun j _ _=>by by_cases hj:j=i;exact .inr hj;exact .inl hj),k2.ext,k2.al,fun j=>?_,fun o j e he hj=>?_⟩
 ·have:=k2.rl j;rw[←hrd j];exact this
 ·have:=k2.new o j e he hj;rw[←hrd e.i];exact this
theorem JI.held (h:JI q sv pt win rest F Cl st L A)(hu:st.2[o]?=some u)(l:List UInt8):JI q sv pt win rest F Cl (st.1,st.2.set o {u with held:=l}) L A:=by
 refine⟨h.cli,h.lg,fun o' u' hu'=>?_,by rw[List.length_set];exact h.len,fun hF b hb=>?_,h.opn,h.clb,h.c4,h.s1⟩
 ·rcases get_set (show(st.2.set o {u with held:=l})[o']?=some u' from hu')with⟨e1,e2⟩|⟨e1,e2⟩
  ·rw[e1,e2];exact h.sr o u hu
  ·exact h.sr o' u' e2
 ·obtain⟨v,v1,v2⟩:=h.up hF b hb;by_cases hbo:b=o
  ·subst hbo;rw[hu]at v1;cases v1;exact⟨_,List.getElem?_set_self (List.getElem?_eq_some_iff.1 hu).1,v2⟩
  ·exact⟨v,by rw[List.getElem?_set_ne (fun e=>hbo e.symm)];exact v1,v2⟩
end
variable {i:Nat}
def ansH (t:Bool)(n id:Nat):List UInt8:=[2,if t=true then 0 else 1,0,UInt8.ofNat n,0,UInt8.ofNat (id % 256),UInt8.ofNat (id / 256)]
theorem ansF_by (t:Bool)(v:ByteArray)(id:Nat):(ansF t v id).data.toList=ansH t v.size id++v.data.toList:=by
 unfold ansF;rw[toList_app];simp only[strOfNums,List.map_cons,List.map_nil,ansH]
 have z1:((v.size:Int)).toNat=v.size:=by omega
 have z3:(((id % 256:Nat):Int)).toNat=id % 256:=by omega
 have z4:(((id / 256:Nat):Int)).toNat=id / 256:=by omega
 rw[z1,z3,z4];cases t<;>rfl
theorem fromR_ans {t:Bool}{v:ByteArray}{id c:Nat}(hv:v.size≤40)(hi:id<65536)(hc:c≤7+v.size):fromR ((ansF t v id).data.toList.take c)=if c<7+v.size then(none,true)else(some ⟨if t=true then 0 else 1,id,v,7+v.size⟩,true):=by
 rw[ansF_by];have lv:=len_size' v;have hl:((ansH t v.size id++v.data.toList).take c).length=c:=by rw[List.length_take,List.length_append,lv];show min c (7+v.size)=c;omega
 unfold fromR;rw[hl];by_cases h7:c<7
 ·rw[if_pos h7,if_pos (by omega)]
 ·rw[if_neg h7];have ht:(ansH t v.size id++v.data.toList).take c=ansH t v.size id++v.data.toList.take (c-7):=by
   rw[List.take_append];rw[List.take_of_length_le (show(ansH t v.size id).length≤c by show 7≤c;omega)];rfl
  rw[ht];have b0:byAt (ansH t v.size id++v.data.toList.take (c-7)) 0=2:=rfl;have b1:byAt (ansH t v.size id++v.data.toList.take (c-7)) 1=if t=true then 0 else 1:=by cases t<;>rfl
  have b2:byAt (ansH t v.size id++v.data.toList.take (c-7)) 2=0:=rfl;have b3:byAt (ansH t v.size id++v.data.toList.take (c-7)) 3=v.size:=ofNat_lt _ (by omega);have b4:byAt (ansH t v.size id++v.data.toList.take (c-7)) 4=0:=rfl;have b5:byAt (ansH t v.size id++v.data.toList.take (c-7)) 5=id % 256:=ofNat_lt _ (by omega);have b6:byAt (ansH t v.size id++v.data.toList.take (c-7)) 6=id / 256:=ofNat_lt _ (by omega);have n3:numAt (ansH t v.size id++v.data.toList.take (c-7)) 3=v.size:=by unfold numAt;rw[b3,b4];omega
  have n5:numAt (ansH t v.size id++v.data.toList.take (c-7)) 5=id:=by unfold numAt;rw[b5,b6];omega
  rw[b0,b1,b2,n3,n5];rw[if_neg (by cases t<;>simp<;>omega)];by_cases hlt:c<7+v.size
  ·rw[if_pos hlt,if_pos hlt]
  ·rw[if_neg hlt,if_neg hlt];have e:bytesOf (ansH t v.size id++v.data.toList.take (c-7)) 7 v.size=v:=by
    unfold bytesOf;rw[show(ansH t v.size id++v.data.toList.take (c-7)).drop 7=v.data.toList.take (c-7)from rfl,List.take_take,List.take_of_length_le (by rw[lv];omega)]
   rw[e]
section
variable {q:PlyL}{sv pt win:Nat}{rest:Nat→List UInt8}{F:Nat→Prop}{Cl:Nat→Nat→Prop}{st:List CliQ×List SrvQ}{L:Nat→List En}{A:Nat→Nat}{o:Nat}{u:SrvQ}{piece:List UInt8}{t:Bool}{v:ByteArray}{id:Nat}
theorem set_set' {α:Type}(l:List α)(i:Nat)(x y:α):(l.set i x).set i y=l.set i y:=by simp
theorem answered_whole {k m:Nat}(hu:st.2[o]?=some u)(hv:v.size≤40)(hi:id<65536)(he:u.held++piece=(ansF t v id).data.toList)(hf:findP o id st.1 0=some (i,k,m))(hm:mayB (kindAt st.1 i k) ⟨if t=true then 0 else 1,id,v,7+v.size⟩=true):answeredJ sv pt win o piece st=runJ sv pt win i (anJ st.1 i k m ⟨if t=true then 0 else 1,id,v,7+v.size⟩,st.2.set o {u with held:=[]}):=by
 have hol:=(List.getElem?_eq_some_iff.1 hu).1;have lB:(ansF t v id).data.toList.length=7+v.size:=by rw[len_size',ansF_size]
 have hfr:=fromR_ans (t:=t) (v:=v) (id:=id) (c:=7+v.size) hv hi (Nat.le_refl _);rw[List.take_of_length_le (by omega),if_neg (by omega)]at hfr;have hh:hearO (st.1,st.2.set o {u with held:=u.held++piece}).1 {u with held:=u.held++piece} o= .got i k m ⟨if t=true then 0 else 1,id,v,7+v.size⟩:=by
  unfold hearO;rw[show({u with held:=u.held++piece}:SrvQ).held=(ansF t v id).data.toList from he,hfr];simp only
  rw[hf];simp only
  rw[if_pos hm]
 have hs1:(st.1,st.2.set o {u with held:=u.held++piece}).2[o]?=some {u with held:=u.held++piece}:=List.getElem?_set_self hol;have hd:({u with held:=u.held++piece}:SrvQ).held.drop (7+v.size)=[]:=by rw[show({u with held:=u.held++piece}:SrvQ).held=(ansF t v id).data.toList from he];exact List.drop_eq_nil_of_le (by omega)
 obtain⟨s',a1,a2,_⟩:=got_held (sv:=sv) (pt:=pt) (win:=win) hs1 hh;have hg:=lisJ_got (sv:=sv) (pt:=pt) (win:=win) hs1 hh;rw[show(Reply.used ⟨if t=true then 0 else 1,id,v,7+v.size⟩)=7+v.size from rfl]at a1 a2 hg;rw[hd]at a1 a2 hg;have hst:hearO (runJ sv pt win i (anJ (st.1,st.2.set o {u with held:=u.held++piece}).1 i k m ⟨if t=true then 0 else 1,id,v,7+v.size⟩,(st.1,st.2.set o {u with held:=u.held++piece}).2.set o {({u with held:=u.held++piece}:SrvQ)with held:=[]})).1 s' o= .stop true:=by
  unfold hearO;rw[a2];rfl
 unfold answeredJ;rw[hu];simp only
 unfold listenJ;rw[hg,lisJ_stop a1 hst,if_pos rfl];simp only[set_set']
theorem answered_none (hu:st.2[o]?=some u)(hv:v.size≤40)(hi:id<65536)(he:u.held++piece=(ansF t v id).data.toList)(hn:∀i k m,findP o id st.1 0=some (i,k,m)→¬mayB (kindAt st.1 i k) ⟨if t=true then 0 else 1,id,v,7+v.size⟩=true):answeredJ sv pt win o piece st=fallJ sv pt win o (st.1,st.2.set o {u with held:=u.held++piece}):=by
 have hol:=(List.getElem?_eq_some_iff.1 hu).1;have lB:(ansF t v id).data.toList.length=7+v.size:=by rw[len_size',ansF_size]
 have hfr:=fromR_ans (t:=t) (v:=v) (id:=id) (c:=7+v.size) hv hi (Nat.le_refl _);rw[List.take_of_length_le (by omega),if_neg (by omega)]at hfr;have hh:hearO (st.1,st.2.set o {u with held:=u.held++piece}).1 {u with held:=u.held++piece} o= .stop false:=by
  unfold hearO;rw[show({u with held:=u.held++piece}:SrvQ).held=(ansF t v id).data.toList from he,hfr];simp only
  cases hf:findP o id st.1 0 with
  |none=>rfl
  |some z=>
   obtain⟨i,k,m⟩:=z;simp only
   rw[if_neg (hn i k m hf)]
 unfold answeredJ;rw[hu];simp only
 unfold listenJ;rw[lisJ_stop (st:=(st.1,st.2.set o {u with held:=u.held++piece})) (List.getElem?_set_self hol) hh];rfl
theorem JI.runs (hq:PlyLOk q):∀(n:Nat) {F:Nat→Prop} {st:List CliQ×List SrvQ} {L:Nat→List En} {A:Nat→Nat},JI q sv pt win rest F Cl st L A→∃L' A',JI q sv pt win rest (fun j=>F j∨j<n) Cl (runsJ sv pt win n st) L' A':=by
 intro n;induction n with
 |zero=>intro F st L A h;exact⟨L,A,h.more (fun i _ hG=>by rcases hG with e|e;exact e;omega)⟩
 |succ n ih=>
  intro F st L A h;obtain⟨L1,A1,h1⟩:=ih h;obtain⟨L2,A2,h2,_⟩:=h1.run hq n;rw[runsJ_succ];exact⟨L2,A2,h2.more (fun i _ hG=>by rcases hG with e|e;exact .inl (.inl e);by_cases hi:i=n;exact .inr hi;exact .inl (.inr (by omega)))⟩
theorem JI.fall (hq:PlyLOk q)(h:JI q sv pt win rest F Cl st L A)(hF:q.Fl)(o:Nat):∃L' A',JI q sv pt win rest (fun _=>True) Cl (fallJ sv pt win o st) L' A':=by
 have hrd:∀j,rdN A (st.1.map (failC o)) j=rdN A st.1 j:=fun j=>by
  unfold rdN;rw[List.getElem?_map];cases st.1[j]?with
  |none=>rfl
  |some s=>simp[failC]
 have h0:JI q sv pt win rest (fun _=>False) Cl (st.1.map (failC o),fellS o st.2) L A:=by
  refine⟨fun i s' hs'=>?_,?_,fun b u hu=>?_,?_,fun h=>absurd hF h,fun h=>absurd hF h,h.clb,by rw[List.length_map];exact h.c4,h.s1⟩
  ·have hs2:(st.1.map (failC o))[i]?=some s':=hs';rw[List.getElem?_map]at hs2;cases hs:st.1[i]?with
   |none=>rw[hs]at hs2;cases hs2
   |some s=>
    rw[hs]at hs2;have hs3:s'=failC o s:=by simpa using hs2.symm
    subst hs3;obtain⟨h1,_⟩:=h.cli i s hs;have hlen:(failC o s).qs.length=s.qs.length:=by simp[failC]
    refine⟨⟨h1.di,h1.ps0,h1.cl0,fun k x hx=>?_,by rw[hlen];exact h1.tx,by rw[hlen];exact h1.le,h1.td⟩,fun hf=>hf.elim⟩;have hx2:(s.qs.map (failQ o))[k]?=some x:=hx;rw[List.getElem?_map]at hx2;cases hy:s.qs[k]?with
    |none=>rw[hy]at hx2;cases hx2
    |some y=>
     rw[hy]at hx2;have hx3:x=failQ o y:=by simpa using hx2.symm
     subst hx3;obtain⟨c,e1,e2,e3,e4⟩:=h1.cm k y hy;refine⟨c,e1,e2,by show(y.ps.map _).length=_;rw[List.length_map];exact e3,fun m p hp=>?_⟩;have hp2:(y.ps.map (failP o))[m]?=some p:=hp;rw[List.getElem?_map]at hp2;cases hz:y.ps[m]?with
     |none=>rw[hz]at hp2;cases hp2
     |some z=>
      rw[hz]at hp2;have hp3:p=failP o z:=by simpa using hp2.symm
      rcases failP_cases o z with f|f
      ·rw[hp3,f];exact e4 m z hz
      ·rw[hp3,f];exact hF
  ·have e:(fun j=>partsN j (q.cs j) (rdN A (st.1.map (failC o)) j))=fun j=>partsN j (q.cs j) (rdN A st.1 j):=by funext j;rw[hrd j]
   show LgI q.Fl sv pt (fun j=>partsN j (q.cs j) (rdN A (st.1.map (failC o)) j)) L;rw[e];exact h.lg
  ·have hu2:(fellS o st.2)[b]?=some u:=hu;unfold fellS at hu2;split at hu2
   ·exact h.sr b u hu2
   ·rename_i s hs;rcases get_set hu2 with⟨e1,e2⟩|⟨e1,e2⟩
    ·rw[e1,e2];exact h.sr o s hs
    ·exact h.sr b u e2
  ·show(fellS o st.2).length=sv;unfold fellS;split
   ·exact h.len
   ·rw[List.length_set];exact h.len
 obtain⟨L',A',k⟩:=JI.runs hq st.1.length h0;unfold fallJ;refine⟨L',A',k.more (fun i hi _=> .inr ?_)⟩;rw[runsJ_len]at hi;simpa using hi
theorem JI.upped (h:JI q sv pt win rest F Cl st L A)(o:Nat):JI q sv pt win rest F Cl (st.1,uppedJ o st.2) L A:=by
 unfold uppedJ;split
 ·exact h
 ·rename_i u hu;refine⟨h.cli,h.lg,fun b v hv=>?_,by rw[List.length_set];exact h.len,fun hF b hb=>?_,h.opn,h.clb,h.c4,h.s1⟩
  ·rcases get_set (show(st.2.set o {u with up:=true})[b]?=some v from hv)with⟨e1,e2⟩|⟨e1,e2⟩
   ·rw[e1,e2];exact h.sr o u hu
   ·exact h.sr b v e2
  ·obtain⟨v,v1,v2⟩:=h.up hF b hb;by_cases hbo:b=o
   ·subst hbo;exact⟨_,List.getElem?_set_self (List.getElem?_eq_some_iff.1 hu).1,rfl⟩
   ·exact⟨v,by rw[List.getElem?_set_ne (fun e=>hbo e.symm)];exact v1,v2⟩
theorem partsN_mem {cs:List Cmd}:∀{n:Nat} {e:En},e∈partsN i cs n→e.i=i∧e.n<n∧∃c,cs[e.n]?=some c∧e.k=c.kind∧e.val=c.val∧c.keys[e.m]?=some e.key:=by
 intro n;induction n with
 |zero=>intro e h;cases h
 |succ n ih=>
  intro e h;rcases List.mem_append.1 (show e∈partsN i cs n++_ from h)with h|h
  ·obtain⟨h1,h2,h3⟩:=ih h;exact⟨h1,by omega,h3⟩
  ·cases hc:cs[n]?with
   |none=>rw[hc]at h;cases h
   |some c=>
    rw[hc]at h;obtain⟨m,hm⟩:=List.mem_iff_getElem?.1 h;simp only[partsK,List.getElem?_mapIdx]at hm;cases hk:c.keys[m]?with
    |none=>rw[hk]at hm;cases hm
    |some key=>
     rw[hk]at hm;simp at hm;rw[←hm];exact⟨rfl,Nat.lt_succ_self _,c,hc,rfl,rfl,hk⟩
theorem JI.entry (h:JI q sv pt win rest F Cl st L A){o j:Nat}{e:En}(he:(L o)[j]?=some e):e.n<rdN A st.1 e.i∧ownerN sv pt e.key=o∧∃c,(q.cs e.i)[e.n]?=some c∧e.k=c.kind∧e.val=c.val∧c.keys[e.m]?=some e.key:=by
 have h1:e∈(L o).filter (fun x=>x.i==e.i):=List.mem_filter.2 ⟨List.mem_of_getElem? he,by simp⟩;obtain⟨h3,h4⟩:=List.mem_filter.1 ((h.lg.sub o e.i).subset h1);obtain⟨_,h5,h6⟩:=partsN_mem h3;exact⟨h5,by simpa using h4,h6⟩
theorem JI.frs (hq:PlyLOk q)(h:JI q sv pt win rest F Cl st L A)(o:Nat):FrsOk (frsE (L o))∧(L o).length≤800:=by
 have hk4:∀j,∀c∈q.cs j,c.keys.length≤4:=fun j c hc=>(askable_of (hq.hg j c hc).cmd).len4
 have hl:=h.lg.short (fun j=>by
  have h1:=partsN_len (i:=j) (hk4 j) (rdN A st.1 j);have h2:rdN A st.1 j≤40:=by
   unfold rdN;split
   ·rename_i s' hs';exact Nat.le_trans (h.cli j s' hs').1.le (hq.hl j)
   ·omega
  omega) o
 refine⟨fun f hf=>?_,hl⟩;obtain⟨j,hj⟩:=List.mem_iff_getElem?.1 hf;have hjl:=(List.getElem?_eq_some_iff.1 hj).1;rw[frsE_len]at hjl;rw[frsE_get (List.getElem?_eq_getElem hjl)]at hj;obtain⟨_,_,c,c1,c2,c3,c4⟩:=h.entry (List.getElem?_eq_getElem hjl);have G:=askable_of (hq.hg _ c (List.mem_of_getElem? c1)).cmd;have hj2:=(Option.some.inj hj).symm;rw[hj2];exact⟨by rw[c2];exact G.kind,G.keys _ (List.mem_of_getElem? c4),by rw[c3];exact G.val40,by show j<65536;omega⟩
end
variable {i n:Nat}{piece r:List UInt8}
structure PB (gs:List Int)(w W:World)(P X sv pt win:Nat)(css:List (List Cmd))(sd:List Nat)(st:List CliQ×List SrvQ)(D:PlD):Prop where
 pl:PlayV w W P X sv pt win (4000*sd.sum) st D
 cl:st.1.length=css.length
 lS:D.S.length=sv
 txt:D.txt=txtOf gs css
 wnt:D.wnt=wntOf gs css
 lsd:sd.length=css.length
 sle:∀(i n:Nat),sd[i]?=some n→n≤(txI gs css i).length
 c4:css.length≤4
 said:Saids gs css
section
variable {gs:List Int}{w W W':World}{P X sv pt win:Nat}{css:List (List Cmd)}{sd:List Nat}{st st':List CliQ×List SrvQ}{D D':PlD}
theorem PB.to (h:PB gs w W P X sv pt win css sd st D)(k:PlayV w W' P X sv pt win (4000*sd.sum) st' D)(hl:st'.1.length=st.1.length):PB gs w W' P X sv pt win css sd st' D:=
 ⟨k,hl.trans h.cl,h.lS,h.txt,h.wnt,h.lsd,h.sle,h.c4,h.said⟩
theorem PB.below (h:PB gs w W P X sv pt win css sd st D)(hb:Below W.heap.size W W'):PB gs w W' P X sv pt win css sd st D:=h.to (h.pl.below hb) rfl
theorem PB.sum (h:PB gs w W P X sv pt win css sd st D):sd.sum≤60000:=by
 have h1:=sum_le 15000 sd (fun x hx=>by
  obtain⟨i,hi⟩:=List.mem_iff_getElem?.1 hx;exact Nat.le_trans (h.sle i x hi) (h.said.size' i))
 have h2:=h.lsd;have h3:=h.c4;have:15000*sd.length≤15000*4:=Nat.mul_le_mul_left _ (by omega);omega
theorem PB.lt (h:PB gs w W P X sv pt win css sd st D):D.txt.length=css.length:=by rw[h.txt];simp[txtOf]
theorem PB.s14 (h:PB gs w W P X sv pt win css sd st D):1≤sv∧sv≤4:=by
 obtain⟨M,_,⟨_,_,_,_,_,h1,_⟩,_⟩:=h.pl;exact⟨h1.s1,h1.s4⟩
theorem PB.v1 (h:PB gs w W P X sv pt win css sd st D):∃a c,D.v1= .slice a sv c∧sv≤c:=by
 obtain⟨a,c,e,f,_⟩:=h.pl.rowAt (i:=0) (n:=sv) rfl (by show(D.S.map _).length=_;rw[List.length_map];exact h.lS);exact⟨a,c,e,f⟩
theorem PB.v2 (h:PB gs w W P X sv pt win css sd st D):∃a c,D.v2= .slice a css.length c∧css.length≤c:=by
 obtain⟨a,c,e,f,_⟩:=h.pl.rowAt (i:=1) (n:=css.length) rfl (by show(D.txt.map _).length=_;rw[List.length_map];exact h.lt);exact⟨a,c,e,f⟩
theorem PB.cli (h:PB gs w W P X sv pt win css sd st D)(hi:i<css.length):∃g c,D.v2= .slice (some ⟨g,0,none⟩) css.length c∧g<W.heap.size∧W.cell? ⟨g,i,none⟩=some (.string (mkB (txI gs css i))):=by
 have hs:D.txt[i]?=some (mkB (txI gs css i)):=by
  rw[h.txt];unfold txtOf txI;rw[List.getElem?_mapIdx,List.getElem?_eq_getElem hi,csOf_some (List.getElem?_eq_getElem hi)];rfl
 obtain⟨g,c,e1,_,e2,e3⟩:=h.pl.cellsAt (i:=1) (n:=css.length) (j:=i) (u:= .string (mkB (txI gs css i))) rfl (by show(D.txt.map _).length=_;rw[List.length_map];exact h.lt) (by show(D.txt.map _)[i]?=_;rw[List.getElem?_map,hs];rfl);exact⟨g,c,e1,e2,e3⟩
theorem PB.cliQ (h:PB gs w W P X sv pt win css sd st D)(hi:i<css.length):∃s,st.1[i]?=some s:=⟨_,List.getElem?_eq_getElem (by rw[h.cl];exact hi)⟩
theorem rest_set {gs:List Int}{css:List (List Cmd)}{sd:List Nat}(hn:sd[i]?=some n)(hr:restOf gs css sd i=piece++r):(fun j=>if j=i then r else restOf gs css sd j)=restOf gs css (sd.set i (n+piece.length)):=by
 have hil:=(List.getElem?_eq_some_iff.1 hn).1;funext j;by_cases hj:j=i
 ·rw[if_pos hj,hj];unfold restOf at hr⊢;rw[List.getElem?_set_self hil];rw[hn]at hr;show r=(txI gs css i).drop (n+piece.length);rw[←List.drop_drop];have hr':(txI gs css i).drop n=piece++r:=hr;rw[hr'];exact(List.drop_left).symm
 ·rw[if_neg hj];unfold restOf;rw[List.getElem?_set_ne (fun e=>hj e.symm)]
theorem PB.says (h:PB gs w W P X sv pt win css sd st D)(hn:sd[i]?=some n)(hr:restOf gs css sd i=piece++r)(k:PlayV w W' P X sv pt win (4000*sd.sum+4000*piece.length) (saidJ sv pt win i piece st) D):PB gs w W' P X sv pt win css (sd.set i (n+piece.length)) (saidJ sv pt win i piece st) D:=by
 have hlen:n+piece.length≤(txI gs css i).length:=by
  have h1:=congrArg List.length hr;unfold restOf at h1;rw[hn,List.length_drop,List.length_append]at h1;have h2:=h.sle i n hn;simp at h1;omega
 refine⟨?_,(saidJ_len _ _ _ _ _ _).trans h.cl,h.lS,h.txt,h.wnt,by rw[List.length_set];exact h.lsd,fun j m hm=>?_,h.c4,h.said⟩
 ·rw[sum_set sd i n piece.length hn,Nat.mul_add];exact k
 ·rcases get_set hm with⟨e1,e2⟩|⟨e1,e2⟩
  ·rw[e1,e2];exact hlen
  ·exact h.sle j m e2
theorem Bg2.pb (h:Bg2 gs w W P X sv pt win css D)(hc:css.length≤4):PB gs w W P X sv pt win css (List.replicate css.length 0) (cliOf gs css,List.replicate sv ⟨true,0,[],[]⟩) D:=by
 have hs0:(List.replicate css.length 0).sum=0:=by simp
 refine⟨by rw[hs0];exact h.pl,by simp[cliOf],h.lS,h.txt,h.wnt,by simp,fun i n hn=>?_,hc,h.said⟩;have:=(List.mem_replicate.1 (List.mem_of_getElem? hn)).2;rw[this];exact Nat.zero_le _
theorem ji_start {q:PlyL}(hqd:∀i,q.d i=((dOf gs i:Nat):Int))(hqc:q.cs=csOf css)(hP:∀i,q.P i [] 0)(hs:1≤sv)(hc:css.length≤4):JI q sv pt win (restOf gs css (List.replicate css.length 0)) (fun _=>True) (fun _ _=>False) (cliOf gs css,List.replicate sv ⟨true,0,[],[]⟩) (fun _=>[]) (fun _=>0):=by
 have hr:∀i,restOf gs css (List.replicate css.length 0) i=txI gs css i:=fun i=>by
  unfold restOf;rw[List.getElem?_replicate];split<;>rfl
 have hnew:∀(i:Nat) (s:CliQ),(cliOf gs css)[i]?=some s→s=newQ (dOf gs i):=fun i s hs'=>by
  unfold cliOf at hs';rw[List.getElem?_mapIdx]at hs';cases hcs:css[i]?with
  |none=>rw[hcs]at hs';cases hs'
  |some cs=>rw[hcs]at hs';simpa using hs'.symm
 have hrd:∀i,rdN (fun _=>0) (cliOf gs css) i=0:=fun i=>by
  cases hs':(cliOf gs css)[i]?with
  |none=>unfold rdN;rw[hs']
  |some s=>rw[rdN_some hs',hnew i s hs'];rfl
 have hrep:∀(o:Nat) (u:SrvQ),(List.replicate sv (⟨true,0,[],[]⟩:SrvQ))[o]?=some u→u=⟨true,0,[],[]⟩:=fun o u hu=>(List.mem_replicate.1 (List.mem_of_getElem? hu)).2
 refine⟨fun i s hs'=>?_,?_,fun o u hu=>?_,by simp,fun _ o ho=>⟨⟨true,0,[],[]⟩,?_,rfl⟩,fun _ o id e he=>(by simp at he),fun o id h=>h.elim,by simp[cliOf];exact hc,hs⟩
 ·have e:=hnew i s hs';subst e;refine⟨⟨(hqd i).symm,rfl,rfl,fun k x hx=>?_,?_,Nat.zero_le _,hP i⟩,fun _=>⟨fun x l e=>?_,fun _=>readR_nil _⟩⟩
  ·simp[newQ]at hx
  ·rw[hr,hqc,hqd];rfl
  ·simp[newQ]at e
 ·have e:(fun i=>partsN i (q.cs i) (rdN (fun _=>0) (cliOf gs css) i))=fun _=>[]:=by funext i;rw[hrd i];rfl
  show LgI q.Fl sv pt (fun i=>partsN i (q.cs i) (rdN (fun _=>0) (cliOf gs css) i)) _;rw[e];exact⟨fun o i=>List.Sublist.refl _,fun _ o i=>rfl,fun o e he=>(by cases he)⟩
 ·rw[hrep o u hu];exact⟨rfl,rfl⟩
 ·show(List.replicate sv (⟨true,0,[],[]⟩:SrvQ))[o]?=_;rw[List.getElem?_replicate,if_pos ho]
end
variable {i o c:Nat}{ss:List SrvQ}{u:SrvQ}
def okL (i:Nat)(l:List UInt8):Prop:=∀b∈l,b.toNat<87∨90<b.toNat∨b.toNat=87+i
theorem okL.app {a b:List UInt8}(h:okL i a)(k:okL i b):okL i (a++b):=fun x hx=>by
 rcases List.mem_append.1 hx with e|e
 ·exact h x e
 ·exact k x e
theorem okL.low {l:List UInt8}(h:∀b∈l,b.toNat<87∨90<b.toNat):okL i l:=fun b hb=>by
 rcases h b hb with e|e
 ·exact .inl e
 ·exact .inr (.inl e)
def letV (i:Nat):ByteArray:=⟨#[UInt8.ofNat (87+i),UInt8.ofNat (87+i),UInt8.ofNat (87+i)]⟩
theorem letV_ok (hi:i<4):okL i (letV i).data.toList:=fun b hb=>by
 have:b=UInt8.ofNat (87+i):=by simpa [letV]using hb
 rw[this,ofNat_lt _ (by omega)]
 exact .inr (.inr rfl)
theorem key_okL {s:ByteArray}(h:keyB s=true):okL i s.data.toList:=okL.low (fun b hb=>by
 simp only[keyB,allLd,Bool.and_eq_true,List.all_eq_true]at h
 have:=h.2 b hb
 unfold ldB at this
 rw[Bool.or_eq_true]at this
 rcases this with e|e
 ·simp only[letB,Bool.and_eq_true,decide_eq_true_eq]at e;right;omega
 ·simp only[digB,Bool.and_eq_true,decide_eq_true_eq]at e;left;omega)
theorem dec_low:∀n:Nat,n≤40→∀b∈(dec100 n).data.toList,b.toNat<87:=by decide+kernel
theorem dec_okL {n:Nat}(hn:n≤40):okL i (dec100 n).data.toList:=fun b hb=> .inl (dec_low n hn b hb)
theorem val_okL {v:ByteArray}(hs:v.size≤40)(hv:okL i v.data.toList):okL i (sizedB v).data.toList:=by
 unfold sizedB;rw[toList_app,toList_app,toList_app];exact(((dec_okL hs).app (okL.low (by decide))).app hv).app (okL.low (by decide))
theorem tellS_okL {d ck ak:Int}{keys:List ByteArray}{bs:List Bool}{vs:List ByteArray}{wd:ByteArray}{id:Int}(hd:d≠2)(hk:∀k∈keys,keyB k=true)(hl:keys.length≤4)(hv:∀v∈vs,v.size≤40∧okL i v.data.toList)(hw:okL i wd.data.toList):okL i (tellS d ck ak keys bs vs wd id).data.toList:=by
 unfold tellS;by_cases h1:d=1
 ·rw[if_pos h1];by_cases ha:ak=1
  ·rw[if_pos ha,toList_app,li_list];refine okL.app (fun b hb=>?_) (okL.low (by decide));obtain⟨p,hp,hb⟩:=List.mem_flatMap.1 hb;obtain⟨_,hp2⟩:=List.of_mem_zip hp;obtain⟨hpk,hpv⟩:=List.of_mem_zip hp2;have hV:=hv _ hpv;unfold valL valB at hb;cases hp1:p.1 with
   |false=>rw[hp1]at hb;cases hb
   |true=>
    rw[hp1]at hb;have e:okL i ((⟨#[118,97,108,117,101,32]⟩:ByteArray)++p.2.1++⟨#[32]⟩++sizedB p.2.2).data.toList:=by
     rw[toList_app,toList_app,toList_app];exact(((okL.low (by decide)).app (key_okL (hk _ hpk))).app (okL.low (by decide))).app (val_okL hV.1 hV.2)
    exact e b hb
  ·rw[if_neg ha];unfold liTellB;split
   ·exact okL.low (by decide)
   ·split
    ·exact okL.low (by decide)
    ·split
     ·exact okL.low (by decide)
     ·rw[toList_app,toList_app];exact((okL.low (by decide)).app hw).app (okL.low (by decide))
 ·rw[if_neg h1,if_neg hd];have hF:∀ts:List (Bool×ByteArray),(∀p∈ts,p.2.size≤40∧okL i p.2.data.toList)→okL i (lsFold ts).data.toList:=fun ts h b hb=>by
   rw[ls_list]at hb;obtain⟨l,hl,hb⟩:=List.mem_flatten.1 hb;obtain⟨p,hp,rfl⟩:=List.mem_map.1 hl;unfold tvL tvB at hb;cases hp1:p.1 with
   |false=>
    rw[hp1]at hb;have e:okL i (⟨#[36,45,49,10]⟩:ByteArray).data.toList:=okL.low (by decide);exact e b hb
   |true=>
    rw[hp1]at hb;have e:okL i (textB p.2).data.toList:=by
     unfold textB;rw[toList_app];exact(okL.low (by decide)).app (val_okL (h p hp).1 (h p hp).2)
    exact e b hb
  by_cases ha:ak=1
  ·rw[if_pos ha];have hz:=hF (bs.zip vs) (fun p hp=>hv _ (List.of_mem_zip hp).2);unfold lsVals;split
   ·exact hz
   ·rw[toList_app,toList_app,toList_app];exact(((okL.low (by decide)).app (dec_okL (by omega))).app (okL.low (by decide))).app hz
  ·rw[if_neg ha];unfold lsTellB;split
   ·exact okL.low (by decide)
   ·split
    ·exact okL.low (by decide)
    ·split
     ·exact okL.low (by decide)
     ·rw[toList_app,toList_app];exact((okL.low (by decide)).app hw).app (okL.low (by decide))
def plyA (gs:List Int)(css:List (List Cmd)):PlyL:=⟨fun i=>((dOf gs i:Nat):Int),csOf css,fun i _ _ _ v=>v=noB∨(i<4∧v=letV i),fun i l _=>dOf gs i≠2→okL i l,True⟩
theorem plyA_ok {gs:List Int}{css:List (List Cmd)}(h:Saids gs css):PlyLOk (plyA gs css):=by
 refine⟨fun i=>dOf_123 gs i,h.good',fun i=>h.short' i,fun i told a c ps h1 h2 h3 h4 hd=>(h4 hd).app ?_⟩;have A:=askable_of (h.good' i c (List.mem_of_getElem? h1)).cmd;have hne:c.keys≠[]:=fun e=>by have:=A.len1;rw[e]at this;simp at this
 unfold toldB;rw[if_neg (show¬(cmdN ((plyA gs css).d i) a c).keys=[]from hne)];refine tellS_okL (by show((dOf gs i:Nat):Int)≠2;omega) A.keys A.len4 (fun v hv=>?_) ?_
 ·obtain⟨p,hp,rfl⟩:=List.mem_map.1 hv;obtain⟨m,hm⟩:=List.mem_iff_getElem?.1 hp;rcases h3 m p hm with⟨st,v,rfl,e⟩|⟨rfl,_⟩
  ·rcases e with e|⟨e1,e2⟩
   ·show v.size≤40∧okL i v.data.toList;rw[e];exact⟨by decide,fun b hb=>(by cases hb)⟩
   ·show v.size≤40∧okL i v.data.toList;rw[e2];exact⟨by show 3≤40;omega,letV_ok e1⟩
  ·exact⟨by decide,fun b hb=>(by cases hb)⟩
 ·unfold QS.wd;split
  ·exact okL.low (by decide)
  ·split
   ·exact okL.low (by decide)
   ·exact fun b hb=>(by cases hb)
def Emp (ss:List SrvQ):Prop:=∀(o:Nat) (u:SrvQ),ss[o]?=some u→u.held=[]
theorem Emp.same {ss':List SrvQ}(h:Emp ss)(k:SameIn ss ss'):Emp ss':=fun o u hu=>by
 obtain⟨s,h1,h2,_⟩:=k.2 o u hu
 rw[h2];exact h o s h1
theorem Emp.set (h:Emp ss)(o:Nat)(hu:u.held=[]):Emp (ss.set o u):=fun b v hv=>by
 rcases get_set hv with⟨_,e⟩|⟨_,e⟩
 ·rw[e];exact hu
 ·exact h b v e
theorem Emp.fall {sv pt win:Nat}{cs:List CliQ}(h:Emp ss)(hu:ss[o]?=some u)(l:List UInt8):Emp (fallJ sv pt win o (cs,ss.set o {u with held:=l})).2:=by
 unfold fallJ;refine Emp.same ?_ (runsJ_in _ _ _ _ _);show Emp (fellS o (ss.set o {u with held:=l}));unfold fellS;rw[List.getElem?_set_self (List.getElem?_eq_some_iff.1 hu).1];simp only[set_set']
 exact h.set o rfl
def ltrE (e:En):ByteArray:=if e.k=1 then letV e.i else noB
theorem ltrE_size (e:En):(ltrE e).size≤40:=by
 unfold ltrE;split
 ·show 3≤40;omega
 ·decide
section
variable {gs:List Int}{w W:World}{P X sv pt win:Nat}{css:List (List Cmd)}{sd:List Nat}{st:List CliQ×List SrvQ}{D:PlD}{rest:Nat→List UInt8}{Cl:Nat→Nat→Prop}{L:Nat→List En}{A:Nat→Nat}
theorem apart_answer (hs:Saids gs css)(h:JI (plyA gs css) sv pt win rest (fun _=>True) Cl st L A)(hE:Emp st.2){j:Nat}{e:En}(hu:st.2[o]?=some u)(he:(L o)[j]?=some e):∃L' A' Cl',JI (plyA gs css) sv pt win rest (fun _=>True) Cl' (answeredJ sv pt win o (ansF true (ltrE e) j).data.toList st) L' A'∧Emp (answeredJ sv pt win o (ansF true (ltrE e) j).data.toList st).2:=by
 have hq:=plyA_ok hs;have hj:=(List.getElem?_eq_some_iff.1 he).1;have hl:=(h.frs hq o).2;have hh:u.held++(ansF true (ltrE e) j).data.toList=(ansF true (ltrE e) j).data.toList:=by rw[hE o u hu];rfl
 by_cases hf:∃i k m,findP o j st.1 0=some (i,k,m)∧mayB (kindAt st.1 i k) ⟨if true=true then 0 else 1,j,ltrE e,7+(ltrE e).size⟩=true
 ·obtain⟨i,k,m,hf,hm⟩:=hf;rw[answered_whole hu (ltrE_size e) (by omega) hh hf hm];obtain⟨i',s,x,e0,g1,g2,g3⟩:=findP_some o j st.1 0 i k m hf;rw[Nat.zero_add]at e0;subst e0;obtain⟨_,_,_,_,c4⟩:=(h.cli i s g1).1.cm k x g2;obtain⟨⟨en,n1,n2,_⟩,_⟩:=c4 m _ g3;rw[he]at n1;cases n1;have hi4:=h.lg.c4 o e (List.mem_of_getElem? he);obtain⟨L',A',k1,_⟩:=h.an hq (used:=7+(ltrE e).size) (stt:=if true=true then 0 else 1) (v:=ltrE e) hu hf (by
   show ltrE e=noB∨(i<4∧ltrE e=letV i)
   unfold ltrE;split
   ·exact .inr ⟨by omega,by rw[n2]⟩
   ·exact .inl rfl) []
  exact⟨L',A',_,k1,(hE.set o (u:={u with held:=[]}) rfl).same (runJ_in _ _ _ _ _)⟩
 ·rw[answered_none hu (ltrE_size e) (by omega) hh (fun i k m h1 h2=>hf ⟨i,k,m,h1,h2⟩)];obtain⟨L',A',k⟩:=(h.held hu (u.held++(ansF true (ltrE e) j).data.toList)).fall (plyA_ok hs) trivial o;exact⟨L',A',Cl,k,hE.fall hu _⟩
def ApTo (gs:List Int)(w W:World)(P X sv pt win:Nat)(css:List (List Cmd))(sd:List Nat)(D:PlD):Prop:=∃st L A Cl,PB gs w W P X sv pt win css sd st D∧JI (plyA gs css) sv pt win (restOf gs css sd) (fun _=>True) Cl st L A∧Emp st.2
theorem ApTo.below {W':World}(h:ApTo gs w W P X sv pt win css sd D)(hb:Below W.heap.size W W'):ApTo gs w W' P X sv pt win css sd D:=by
 obtain⟨st,L,A,Cl,h1,h2⟩:=h;exact⟨st,L,A,Cl,h1.below hb,h2⟩
theorem ApTo.start (h:Bg2 gs w W P X sv pt win css D)(hc:css.length≤4):ApTo gs w W P X sv pt win css (List.replicate css.length 0) D:=
 ⟨_,_,_,_,h.pb hc,ji_start (q:=plyA gs css) (fun i=>rfl) rfl (fun i _ b hb=>(by cases hb)) (h.pb hc).s14.1 hc,fun o u hu=>by
  have:=(List.mem_replicate.1 (List.mem_of_getElem? (show(List.replicate sv (⟨true,0,[],[]⟩:SrvQ))[o]?=some u from hu))).2;rw[this]⟩
theorem ApTo.callSay (h:ApTo gs w W P X sv pt win css (sdTo gs css (List.replicate css.length 0) c) D)(hc:c<css.length):Calls Tryz.prog 28 #[.pointer (some ⟨X,0,none⟩),.int .i64 (c:Int),.string (mkB (txI gs css c))] W fun e w'=>e= .returned (.int .i64 0)∧ApTo gs w w' P X sv pt win css (sdTo gs css (List.replicate css.length 0) (c+1)) D:=by
 obtain⟨st,L,A,Cl,h1,h2,h3⟩:=h;obtain⟨s,hs⟩:=h1.cliQ hc;have hn:(sdTo gs css (List.replicate css.length 0) c)[c]?=some 0:=sdTo_get (by rw[List.getElem?_replicate,if_pos hc]);have hr:restOf gs css (sdTo gs css (List.replicate css.length 0) c) c=txI gs css c++[]:=by
  unfold restOf;rw[hn,List.append_nil];rfl
 have hsum:=h1.sum;have htl:=h1.said.size' c;have hsz:(mkB (txI gs css c)).size=(txI gs css c).length:=mk_size _;refine(h1.pl.callSay hs (mkB (txI gs css c)) (by omega)).mono ?_;rintro e w' ⟨rfl,k⟩;rw[hsz,show(mkB (txI gs css c)).data.toList=txI gs css c by simp[mkB]]at k;have k1:=h1.says hn hr k;obtain⟨L',A',k2,_⟩:=h2.said (plyA_ok h1.said) hr;rw[rest_set hn hr]at k2;rw[Nat.zero_add,sdTo_succ (by simpa using hc)]at k1 k2;refine⟨rfl,_,L',A',Cl,k1,k2,?_⟩;unfold saidJ;split
 ·exact h3
 ·exact h3.same (runJ_in sv pt win c (st.1.set c (tookQ _ (txI gs css c)),st.2))
theorem ApTo.s14 (h:ApTo gs w W P X sv pt win css sd D):(1≤sv∧sv≤4)∧css.length≤4:=by
 obtain⟨st,L,A,Cl,h1,_⟩:=h;exact⟨h1.s14,h1.c4⟩
theorem ApTo.pc (h:ApTo gs w W P X sv pt win css sd D):W.cell? ⟨P,0,none⟩=some (.pointer (some ⟨X,0,none⟩))∧W.cell? ⟨P,1,none⟩=some D.v1∧W.cell? ⟨P,2,none⟩=some D.v2∧P<W.heap.size:=by
 obtain⟨st,L,A,Cl,h1,_⟩:=h;obtain⟨a,b,c,_,_,d⟩:=h1.pl.pc;exact⟨a,b,c,d⟩
theorem ApTo.forms (h:ApTo gs w W P X sv pt win css sd D):∃a1 c1 a2 c2,D.v1= .slice a1 sv c1∧sv≤c1∧D.v2= .slice a2 css.length c2∧css.length≤c2:=by
 obtain⟨st,L,A,Cl,h1,_⟩:=h;obtain⟨a1,c1,e1,f1⟩:=h1.v1;obtain⟨a2,c2,e2,f2⟩:=h1.v2;exact⟨a1,c1,a2,c2,e1,f1,e2,f2⟩
theorem ApTo.cli (h:ApTo gs w W P X sv pt win css sd D)(hi:i<css.length):(txI gs css i).length≤15000∧∃g c,D.v2= .slice (some ⟨g,0,none⟩) css.length c∧g<W.heap.size∧W.cell? ⟨g,i,none⟩=some (.string (mkB (txI gs css i))):=by
 obtain⟨st,L,A,Cl,h1,_⟩:=h;exact⟨h1.said.size' i,h1.cli hi⟩
theorem ApTo.bel (h:ApTo gs w W P X sv pt win css sd D):Below w.heap.size w W:=by
 obtain⟨st,L,A,Cl,h1,_⟩:=h;exact h1.pl.bel
structure SentE (gs:List Int)(w W:World)(P X sv pt win:Nat)(css:List (List Cmd))(sd:List Nat)(D:PlD)(o:Nat)(es:List En):Prop where
 ok:FrsOk (frsE es)
 own:∀e∈es,e.i<4∧ownK e.i e.key
 len:es.length≤800
 ans:∀W',Below W.heap.size W W'→∀(j:Nat) (e:En),es[j]?=some e→Calls Tryz.prog 32 #[.pointer (some ⟨X,0,none⟩),.int .i64 (o:Int),.string (ansF true (ltrE e) j)] W' fun e w'=>(∃c:Int,e= .returned (.int .i64 c))∧ApTo gs w w' P X sv pt win css sd D∧∀b,W.heap.size≤b→b<W'.heap.size→w'.heap[b]?=W'.heap[b]?
theorem ApTo.callSent (h:ApTo gs w W P X sv pt win css sd D)(ho:o<sv):Calls Tryz.prog 30 #[.pointer (some ⟨X,0,none⟩),.int .i64 (o:Int)] W fun e w'=>∃es,e= .returned (.tuple #[.string (mkB ((frsE es).flatMap Fr.by_)),.int .i64 0])∧ApTo gs w w' P X sv pt win css sd D∧SentE gs w w' P X sv pt win css sd D o es:=by
 obtain⟨st,L,A,Cl,h1,h2,h3⟩:=h;obtain⟨u,hu⟩:∃u,st.2[o]?=some u:=⟨_,List.getElem?_eq_getElem (by rw[h2.len];exact ho)⟩
 have hq:=plyA_ok h1.said;refine(h1.pl.callSent hu).mono ?_;rintro e w' ⟨rfl,k⟩;have k1:=h1.to k rfl;obtain⟨f1,f2⟩:=h2.frs hq o;refine⟨L o,by rw[(h2.sr o u hu).1],⟨st,L,A,Cl,k1,h2,h3⟩,f1,fun e he=>?_,f2,fun W' hb j e he=>?_⟩
 ·refine⟨h2.lg.c4 o e he,?_⟩;obtain⟨j,hj⟩:=List.mem_iff_getElem?.1 he;obtain⟨_,_,c,c1,_,_,c4⟩:=h2.entry hj;obtain⟨cs,g1,g2⟩:=csOf_mem (List.mem_of_getElem? c1);exact h1.said.mine _ cs g1 c g2 _ (List.mem_of_getElem? c4)
 ·have k2:=k1.below hb;obtain⟨M,q1,q2,q3⟩:=k1.pl;have hold:=q2.old;have q1:=q1.below hb;have q2:=q2.below hb;have q3:=k2.pl.bel;have hsum:=k2.sum;have hz:(ansF true (ltrE e) j).size=7+(ltrE e).size:=ansF_size _ _ _;have hz2:=ltrE_size e;cases hup:u.up with
  |true=>
   refine(answer_pl q2 hu (ansF true (ltrE e) j) hup (by omega) (by rw[h3 o u hu];simp;omega)).mono ?_;rintro e' w2 ⟨rfl,a⟩;obtain⟨L',A',Cl',g1,g2⟩:=apart_answer h1.said h2 h3 hu he;refine⟨⟨0,rfl⟩,⟨_,L',A',Cl',k2.to (PlayV.jun ⟨M,q1,a,q3⟩) (answeredJ_len _ _ _ _ _ _),g1,g2⟩,fun b hb1 hb2=>?_⟩;obtain⟨M',_,a2,_⟩:=a;exact a2.block b hb2 (fun hm=>by have:=hold b hm;omega)
  |false=>
   refine(answer_pl_down q2 hu _ hup).mono ?_;rintro e' w2 ⟨rfl,rfl⟩;exact⟨⟨2,rfl⟩,⟨st,L,A,Cl,k2,h2,h3⟩,fun b _ _=>rfl⟩
theorem ApTo.callDown (h:ApTo gs w W P X sv pt win css sd D)(ho:o<sv):Calls Tryz.prog 33 #[.pointer (some ⟨X,0,none⟩),.int .i64 (o:Int)] W fun e w'=>(∃c:Int,e= .returned (.int .i64 c))∧ApTo gs w w' P X sv pt win css sd D:=by
 obtain⟨st,L,A,Cl,h1,h2,h3⟩:=h;obtain⟨u,hu⟩:∃u,st.2[o]?=some u:=⟨_,List.getElem?_eq_getElem (by rw[h2.len];exact ho)⟩
 have hsum:=h1.sum;obtain⟨M,q1,q2,q3⟩:=h1.pl;cases hup:u.up with
 |true=>
  refine(down_pl q2 hu hup (by omega)).mono ?_;rintro e w' ⟨rfl,a⟩;obtain⟨L',A',k⟩:=h2.fall (plyA_ok h1.said) trivial o;have e0:st.2.set o {u with held:=u.held}=st.2:=by
   have:=(List.getElem?_eq_some_iff.1 hu)
   obtain⟨g1,g2⟩:=this;rw[show({u with held:=u.held}:SrvQ)=u from rfl,←g2];simp
  have k3:=Emp.fall (sv:=sv) (pt:=pt) (win:=win) (cs:=st.1) h3 hu u.held;rw[e0]at k3;exact⟨⟨0,rfl⟩,_,L',A',Cl,h1.to (PlayV.jun ⟨M,q1,a,q3⟩) (fallJ_len _ _ _ _ _),k,k3⟩
 |false=>
  refine(down_pl_down q2 hu hup).mono ?_;rintro e w' ⟨rfl,rfl⟩;exact⟨⟨2,rfl⟩,st,L,A,Cl,h1,h2,h3⟩
theorem ApTo.callUp (h:ApTo gs w W P X sv pt win css sd D)(ho:o<sv):Calls Tryz.prog 34 #[.pointer (some ⟨X,0,none⟩),.int .i64 (o:Int)] W fun e w'=>(∃c:Int,e= .returned (.int .i64 c))∧ApTo gs w w' P X sv pt win css sd D:=by
 obtain⟨st,L,A,Cl,h1,h2,h3⟩:=h;obtain⟨u,hu⟩:∃u,st.2[o]?=some u:=⟨_,List.getElem?_eq_getElem (by rw[h2.len];exact ho)⟩
 obtain⟨M,q1,q2,q3⟩:=h1.pl;cases hup:u.up with
 |false=>
  refine(up_pl q2 hu hup).mono ?_;rintro e w' ⟨rfl,a⟩;refine⟨⟨0,rfl⟩,_,L,A,Cl,h1.to (PlayV.jun ⟨M,q1,a,q3⟩) rfl,h2.upped o,?_⟩;show Emp (uppedJ o st.2);unfold uppedJ;rw[hu];exact h3.set o (h3 o u hu)
 |true=>
  refine(up_pl_up q2 hu hup).mono ?_;rintro e w' ⟨rfl,rfl⟩;exact⟨⟨3,rfl⟩,st,L,A,Cl,h1,h2,h3⟩
theorem ApTo.callTold (h:ApTo gs w W P X sv pt win css sd D)(hc:c<css.length):Calls Tryz.prog 26 #[.pointer (some ⟨X,0,none⟩),.int .i64 (c:Int)] W fun e w'=>∃T:ByteArray,e= .returned (.tuple #[.string T,.int .i64 0])∧T.size≤240000000∧(dOf gs c≠2→okL c T.data.toList)∧ApTo gs w w' P X sv pt win css sd D:=by
 obtain⟨st,L,A,Cl,h1,h2,h3⟩:=h;obtain⟨s,hs⟩:=h1.cliQ hc;have hsum:=h1.sum;have hsz:=h1.pl.sizes.1 s (List.mem_of_getElem? hs);refine(h1.pl.callTold hs).mono ?_;rintro e w' ⟨rfl,k⟩;refine⟨_,rfl,by rw[mk_size];omega,fun hd=>?_,st,L,A,Cl,h1.to k rfl,h2,h3⟩;rw[show(mkB s.told).data.toList=s.told by simp[mkB]];exact(h2.cli c s hs).1.td hd
end
variable {es:List En}{e:En}{w2 W W1:World}{v:Value}{ms:List ByteArray}{n k c:Nat}
def mdE (es:List En):List ByteArray:=es.mapIdx (fun j e=>ansF true (ltrE e) j)
theorem mdE_snoc (es:List En)(e:En):mdE (es++[e])=mdE es++[ansF true (ltrE e) es.length]:=by
 unfold mdE;rw[List.mapIdx_append];simp
theorem mdE_get {j:Nat}(h:es[j]?=some e):(mdE es)[j]?=some (ansF true (ltrE e) j):=by
 unfold mdE;rw[List.getElem?_mapIdx,h];rfl
theorem mdE_len (es:List En):(mdE es).length=es.length:=List.length_mapIdx
structure MdAt (w2 W:World)(v:Value)(ms:List ByteArray):Prop where
 row:W.ownsRow w2.heap.size 9 1 v ms.length (ms.map .string)
 bel:Below w2.heap.size w2 W
theorem MdAt.push {w9:World}{v':Value}{x:ByteArray}(h:MdAt w2 W v ms)(hb:Below W.heap.size W W1)(hn:ms.length=n)(hown:w9.ownsRow w2.heap.size 9 1 v' (n+1) (ms.map .string++[.string x]))(hgr:W1.grownBy w9 v.ownBlock):MdAt w2 w9 v' (ms++[x]):=by
 have hb1:Below w2.heap.size w2 W1:=h.bel.trans (hb.mono h.bel.size);refine⟨?_,hb1.trans ⟨hgr.os,hgr.tape,hgr.output,hgr.size,fun k hk=>hgr.block k (Nat.lt_of_lt_of_le hk hb1.size) (fun e=>?_)⟩⟩
 ·rw[List.length_append,hn,List.map_append];exact hown
 ·rcases h.row.2 with⟨e2,_⟩|⟨g',cap,cur,e2,hl,_,_⟩
  ·rw[e2]at e;cases e
  ·rw[e2]at e;have e3:k=g':=by simpa [Value.ownBlock]using e
   omega
theorem MdAt.below (h:MdAt w2 W v ms)(hb:Below W.heap.size W W1):W1.ownsRow w2.heap.size 9 1 v ms.length (ms.map .string):=
 ownsRow_other h.row (fun g hg=>by
  obtain⟨cur,hc⟩:=ownsRow_blk h.row hg;exact hb.block g (blkLt hc))
theorem take_succ_en (h:es[k]?=some e):es.take (k+1)=es.take k++[e]:=by
 rw[List.take_add_one,h];rfl
theorem frsE_take (es:List En)(k:Nat):frsE (es.take k)=(frsE es).take k:=by
 refine List.ext_getElem? (fun j=>?_);unfold frsE;rw[List.getElem?_mapIdx,List.getElem?_take,List.getElem?_take];split
 ·rw[List.getElem?_mapIdx]
 ·rfl
theorem own_at {i:Nat}{s:ByteArray}(h:ownK i s)(hi:i<4)(hs:0<s.size):(s[0].toNat:Int)=97+(i:Int):=by
 unfold ownK at h;have e:s.data.toList.head?=some s[0]:=by
  rw[List.head?_eq_getElem?,Array.getElem?_toList,Array.getElem?_eq_getElem hs];rfl
 rw[e]at h;have:=Option.some.inj h;rw[this,ofNat_lt _ (by omega)];omega
def atOf (es:List En)(k:Nat):Nat:=((frsE (es.take k)).flatMap Fr.by_).length
theorem atOf_succ (h:es[k]?=some e):atOf es (k+1)=atOf es k+(Fr.by_ ⟨e.k,e.key,e.val,k⟩).length:=by
 have hk:=(List.getElem?_eq_some_iff.1 h).1;unfold atOf;rw[take_succ_en h,frsE_snoc,List.flatMap_append,List.length_append,List.length_take,Nat.min_eq_left (by omega)];simp
theorem sent_split (h:es[k]?=some e):∃r,(frsE es).flatMap Fr.by_=(frsE (es.take k)).flatMap Fr.by_++(Fr.by_ ⟨e.k,e.key,e.val,k⟩++r):=by
 have hk:=frsE_get h;have hkl:=(List.getElem?_eq_some_iff.1 hk).1;refine⟨((frsE es).drop (k+1)).flatMap Fr.by_,?_⟩;have e1:frsE es=(frsE es).take k++((frsE es)[k]::(frsE es).drop (k+1)):=by rw[←List.drop_eq_getElem_cons hkl,List.take_append_drop]
 have e2:(frsE es)[k]=⟨e.k,e.key,e.val,k⟩:=(List.getElem?_eq_some_iff.1 hk).2;conv=>lhs;rw[e1]
 rw[frsE_take,List.flatMap_append,List.flatMap_cons,e2]
theorem frs_le {fs:List Fr}(h:FrsOk fs):(fs.flatMap Fr.by_).length≤60*fs.length:=by
 induction fs with
 |nil=>simp
 |cons f fs ih=>
  have h1:=(Fr.by_len (h f (by simp))).2;have h2:=ih (fun g hg=>h g (by simp[hg]));rw[List.flatMap_cons,List.length_append,List.length_cons];omega
theorem ansF_0 (v:ByteArray)(id:Nat):strOfNums [2,0,0,(v.size:Int),0,((id % 256:Nat):Int),((id / 256:Nat):Int)]++v=ansF true v id:=rfl
theorem letters (W:World):W.heap.size<(W.alloc (.cells #[.string ⟨#[87,87,87]⟩,.string ⟨#[88,88,88]⟩,.string ⟨#[89,89,89]⟩,.string ⟨#[90,90,90]⟩] 9)).heap.size∧Below W.heap.size W (W.alloc (.cells #[.string ⟨#[87,87,87]⟩,.string ⟨#[88,88,88]⟩,.string ⟨#[89,89,89]⟩,.string ⟨#[90,90,90]⟩] 9))∧∀(c:Nat) (u:Value),[Value.string ⟨#[87,87,87]⟩,.string ⟨#[88,88,88]⟩,.string ⟨#[89,89,89]⟩,.string ⟨#[90,90,90]⟩][c]?=some u→(W.alloc (.cells #[.string ⟨#[87,87,87]⟩,.string ⟨#[88,88,88]⟩,.string ⟨#[89,89,89]⟩,.string ⟨#[90,90,90]⟩] 9)).cell? ⟨W.heap.size,c,none⟩=some u:=by
 refine⟨by simp,(Below.refl _ _).alloc (Nat.le_refl _) _,fun c u hu=>?_⟩;rw[blkCell (blkNew W (.cells #[.string ⟨#[87,87,87]⟩,.string ⟨#[88,88,88]⟩,.string ⟨#[89,89,89]⟩,.string ⟨#[90,90,90]⟩] 9 (0,0))) c];simpa using hu
theorem letV_at:∀{c:Nat},c<4→[Value.string ⟨#[87,87,87]⟩,.string ⟨#[88,88,88]⟩,.string ⟨#[89,89,89]⟩,.string ⟨#[90,90,90]⟩][c]?=some (.string (letV c)):=by
 intro c h;have:c=0∨c=1∨c=2∨c=3:=by omega
 rcases this with rfl|rfl|rfl|rfl<;>rfl
theorem pick4:∀{c:Nat},c<4→pickN (c:Int) 4=c:=by
 intro c h;have:c=0∨c=1∨c=2∨c=3:=by omega
 rcases this with rfl|rfl|rfl|rfl<;>rfl
theorem pick4w:∀{c:Nat},c<4→(Lit.int .i64 (c:Int)).wf=true:=by
 intro c h;have:c=0∨c=1∨c=2∨c=3:=by omega
 rcases this with rfl|rfl|rfl|rfl<;>rfl
theorem ix4_0 (b:Nat)(W:World):(Instr.indexAt 34 (.slice (some ⟨b,0,none⟩) 4 4) (.int .i64 0)).run Tryz.prog W= .ok (.pointer (some ⟨b,0,none⟩)) W:=by kernel_rfl
theorem ix4_1 (b:Nat)(W:World):(Instr.indexAt 34 (.slice (some ⟨b,0,none⟩) 4 4) (.int .i64 1)).run Tryz.prog W= .ok (.pointer (some ⟨b,1,none⟩)) W:=by kernel_rfl
theorem ix4_2 (b:Nat)(W:World):(Instr.indexAt 34 (.slice (some ⟨b,0,none⟩) 4 4) (.int .i64 2)).run Tryz.prog W= .ok (.pointer (some ⟨b,2,none⟩)) W:=by kernel_rfl
theorem ix4_3 (b:Nat)(W:World):(Instr.indexAt 34 (.slice (some ⟨b,0,none⟩) 4 4) (.int .i64 3)).run Tryz.prog W= .ok (.pointer (some ⟨b,3,none⟩)) W:=by kernel_rfl
theorem ix4 (b:Nat)(W:World)(h:c<4):(Instr.indexAt 34 (.slice (some ⟨b,0,none⟩) 4 4) (.int .i64 (c:Int))).run Tryz.prog W= .ok (.pointer (some ⟨b,c,none⟩)) W:=by
 have:c=0∨c=1∨c=2∨c=3:=by omega
 rcases this with rfl|rfl|rfl|rfl
 ·exact ix4_0 b W
 ·exact ix4_1 b W
 ·exact ix4_2 b W
 ·exact ix4_3 b W
theorem build7 (W:World)(b0 b1 b2 b3 b4 b5 b6:Int):(Instr.buildSlice 80 7 #[(0,.int .u8 b0),(1,.int .u8 b1),(2,.int .u8 b2),(3,.int .u8 b3),(4,.int .u8 b4),(5,.int .u8 b5),(6,.int .u8 b6)]).run Tryz.prog W= .ok (.slice (some ⟨W.heap.size,0,none⟩) 7 7) (W.alloc (.cells #[.int .u8 b0,.int .u8 b1,.int .u8 b2,.int .u8 b3,.int .u8 b4,.int .u8 b5,.int .u8 b6] 5)):=by kernel_rfl
theorem wpList_build7 {ops:Array Oper}{rest:List Oper}{o:Oper}{a:Act}{Q:Exit→Act→World→Prop}{w:World}(hgd:o.guard=none)(x0 x1 x2 x3 x4 x5 x6:Operand)(ho:o.op= .buildSlice 80 7 #[(0,x0),(1,x1),(2,x2),(3,x3),(4,x4),(5,x5),(6,x6)])(b0 b1 b2 b3 b4 b5 b6:Int)(h0:a.eval x0= .int .u8 b0)(h1:a.eval x1= .int .u8 b1)(h2:a.eval x2= .int .u8 b2)(h3:a.eval x3= .int .u8 b3)(h4:a.eval x4= .int .u8 b4)(h5:a.eval x5= .int .u8 b5)(h6:a.eval x6= .int .u8 b6)(h:wpList Tryz.prog ops Q rest (a.put o.dst (.slice (some ⟨w.heap.size,0,none⟩) 7 7)) (w.alloc (.cells #[.int .u8 b0,.int .u8 b1,.int .u8 b2,.int .u8 b3,.int .u8 b4,.int .u8 b5,.int .u8 b6] 5))):wpList Tryz.prog ops Q (o::rest) a w:=
 wpList_plain hgd fun _ hK=>by
  unfold Oper.wp execOp;simp only[ho,List.map_toArray,List.map_cons,List.map_nil,h0,h1,h2,h3,h4,h5,h6,Sem.run_bind,Sem.run_pure,build7,Result.andThen_ok]
  exact hK _ _ h
theorem ixw_0 (W:World):(Instr.index 9 (.string ⟨#[87,88,89,90]⟩) (.int .i64 0)).run Tryz.prog W= .ok (.int .u8 87) W:=by kernel_rfl
theorem ixw_1 (W:World):(Instr.index 9 (.string ⟨#[87,88,89,90]⟩) (.int .i64 1)).run Tryz.prog W= .ok (.int .u8 88) W:=by kernel_rfl
theorem ixw_2 (W:World):(Instr.index 9 (.string ⟨#[87,88,89,90]⟩) (.int .i64 2)).run Tryz.prog W= .ok (.int .u8 89) W:=by kernel_rfl
theorem ixw_3 (W:World):(Instr.index 9 (.string ⟨#[87,88,89,90]⟩) (.int .i64 3)).run Tryz.prog W= .ok (.int .u8 90) W:=by kernel_rfl
theorem MdAt.at_ {a:Option Addr}(h:MdAt w2 W (.slice a n c) ms){q:Nat}{m:ByteArray}(hq:ms[q]?=some m):∃g,a=some ⟨g,0,none⟩∧w2.heap.size≤g∧g<W.heap.size∧W.cell? ⟨g,q,none⟩=some (.string m)∧n≤c:=by
 rcases h.row.2 with⟨e1,e2⟩|⟨g,cap,cur,e1,hl,hh,hnc,h5,h6,ht⟩
 ·have:=(List.getElem?_eq_some_iff.1 hq).1;omega
 ·cases e1;have h0:W.ownsRow 0 9 1 (.slice (some ⟨g,0,none⟩) ms.length c) ms.length (ms.map .string):=⟨h.row.1,.inr ⟨g,c,cur,rfl,Nat.zero_le _,hh,hnc,h5,h6,ht⟩⟩
  exact⟨g,rfl,hl,blkLt hh,cells_of_row h0 (by rw[List.getElem?_map,hq];rfl),by omega⟩
end Go.Proofs.YtlonjggfnleolaaGreatDoor
