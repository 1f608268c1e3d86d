import Derived.Test.YtlonjggfnleolaaGreatDoorStD
import Derived.Deep.Slices
import Derived.SizedLaws
import Derived.ChangeArms
import Derived.ChangeSlices
import Derived.Deep.DrawnRows
import Derived.Laws.OwnMore
import Derived.WalkSmall
namespace Go.Proofs.YtlonjggfnleolaaGreatDoor
open Go.RowKit Go.Shelf
set_option linter.unusedVariables false
theorem PlayV.cellsAt {w0 W:World}{P X sv pt win T:Nat}{st:List CliQ×List SrvQ}{D:PlD}(h:PlayV w0 W P X sv pt win T st D){i n j:Nat}{r:Rw}{u:Value}(hr:D.rows[i]?=some r)(hn:r.xs.length=n)(hj:r.xs[j]?=some u):∃g c,r.v= .slice (some ⟨g,0,none⟩) n c∧n≤c∧g<W.heap.size∧W.cell? ⟨g,j,none⟩=some u:=by
 have h1:=h.row hr;rw[hn]at h1;obtain⟨a,c,e1,e2,e3⟩:=row_sl h1;obtain⟨g,rfl,e4,e5⟩:=e3 j u hj;exact⟨g,c,e1,e2,e4,e5⟩
section
variable {gs:List Int}{w W:World}{P X sv pt win:Nat}{css:List (List Cmd)}{sd:List Nat}{st:List CliQ×List SrvQ}{D:PlD}
end
end Go.Proofs.YtlonjggfnleolaaGreatDoor
namespace Go.Proofs.YtlonjggfnleolaaGreatDoor
open Go.RowKit Go.Deep
set_option linter.unusedVariables false
variable {w:World}{a:Addr}{v:Value}{n:Nat}{cs:List Value}
theorem cell_addr (h:w.cell? a=some v):a=⟨a.block,a.off,none⟩∧a.block<w.heap.size:=by
 unfold World.cell? at h;split at h
 ·rename_i c t f hb;split at h
  ·cases h
  ·rename_i hs;have hs':a.spot=none:=by simpa using hs
   refine⟨?_,(Array.getElem?_eq_some_iff.1 hb).1⟩;cases a;simp at hs';subst hs';rfl
 ·cases h
theorem add_plain (b o i:Nat):(⟨b,o,none⟩:Addr).add i=⟨b,o+i,none⟩:=by
 unfold Addr.add;split
 ·subst_vars;rfl
 ·rfl
section
variable {H:Type}{enc:TypeId×Value→H}{W:World}
theorem int_open {fuel:Nat}{x:DataW H×List MemPlace}(h:DataW.trod enc Tryz.prog W 0 (fun _=>true) true fuel 3 [v]=some x):∃n:Int,v= .int .i64 n:=by
 obtain⟨n,e,_⟩:=DataW.trod_int Tryz.underlying3 h;exact⟨n,by simpa using e⟩
theorem field_at {fs:Array Field}{xs:List (DataW H×List MemPlace)}(hf:∀(i:Nat) (f:Field),fs[i]?=some f→DataW.trod enc Tryz.prog W 0 (fun _=>true) true n f.type ((cs.drop f.offset).take (Tryz.prog.cellsOf f.type))=xs[i]?)(i:Nat)(f:Field)(hi:fs[i]?=some f)(t:TypeId)(o sz:Nat)(ht:f.type=t)(ho:f.offset=o)(hs:Tryz.prog.cellsOf t=sz){y:DataW H×List MemPlace}(hy:xs[i]?=some y)(cs':List Value)(hc:(cs.drop o).take sz=cs'):DataW.trod enc Tryz.prog W 0 (fun _=>true) true n t cs'=some y:=by
 subst ht ho hs hc;exact(hf i f hi).trans hy
theorem weightsAll_mem {e:TypeId}:∀{l:List (DataW H)} {d:DataW H},d∈l→∀n∈d.weights Tryz.prog e,n∈DataW.weightsAll Tryz.prog e l
 |x::l,d,hd,n,hn=>by
  unfold DataW.weightsAll;rw[List.mem_append];rcases List.mem_cons.1 hd with rfl|h
  ·exact .inl hn
  ·exact .inr (weightsAll_mem h n hn)
theorem cells_get (h:w.cells? 0 a n=some cs):∀i,i<n→w.cell? (a.add i)=cs[i]?:=by
 intro i hi;unfold World.cells? at h;rw[if_pos (Nat.zero_le _)]at h;exact mapM_some_get h i i (List.getElem?_range hi)
end
end Go.Proofs.YtlonjggfnleolaaGreatDoor
namespace Go.Proofs.YtlonjggfnleolaaGreatDoor
open Go.RowKit Go.Deep Go.ChangeShapes Go.WideShapes
set_option linter.unusedVariables false
set_option maxRecDepth 20000
variable {fuel:Nat}{v:Value}
structure StepsIn (w:World)(a:Option Addr)(n c:Nat):Prop where
 cap:n≤c
 small:n≤140737488355328
 by_:∀i,i<n→∃(g o:Nat) (k x y:Int),a=some ⟨g,o,none⟩∧g<w.heap.size∧w.cell? ⟨g,o+i*3,none⟩=some (.int .i64 k)∧w.cell? ⟨g,o+i*3+1,none⟩=some (.int .i64 x)∧w.cell? ⟨g,o+i*3+2,none⟩=some (.int .i64 y)∧(Lit.int .i64 x).wf=true∧(Lit.int .i64 y).wf=true
section
variable {H:Type}{enc:TypeId×Value→H}{W:World}
theorem int_openW {x:DataW H×List MemPlace}(h:DataW.trod enc Tryz.prog W 0 (fun _=>true) true fuel 3 [v]=some x):∃n:Int,v= .int .i64 n∧(Lit.int .i64 n).wf=true:=by
 obtain⟨n,e,_,e2⟩:=DataW.trod_int Tryz.underlying3 h;exact⟨n,by simpa using e,e2⟩
theorem list3 {α:Type}{l:List α}(h:l.length=3):∃c0 c1 c2,l=[c0,c1,c2]:=by
 match l,h with
 | [c0,c1,c2],_=>exact⟨c0,c1,c2,rfl⟩
theorem step_open {cs:List Value}{x:DataW H×List MemPlace}(h:DataW.trod enc Tryz.prog W 0 (fun _=>true) true fuel 52 cs=some x):∃k x y:Int,cs=[.int .i64 k,.int .i64 x,.int .i64 y]∧(Lit.int .i64 x).wf=true∧(Lit.int .i64 y).wf=true:=by
 obtain⟨xs,n,_,rfl,hl,hxl,hf⟩:=DataW.trod_struct Tryz.underlying52 h;have e3:Tryz.prog.cellsOf 52=3:=by kernel_rfl
 rw[e3]at hl;have get:∀(l:List (DataW H×List MemPlace)) (m i:Nat),l.length=m→i<m→∃y,l[i]?=some y:=fun l m i a b=>⟨l[i]'(by omega),List.getElem?_eq_getElem _⟩
 have hxl:xs.length=3:=hxl;obtain⟨c0,c1,c2,rfl⟩:=list3 hl;have s3:Tryz.prog.cellsOf 3=1:=by kernel_rfl
 obtain⟨y0,g0⟩:=get xs 3 0 hxl (by omega);obtain⟨y1,g1⟩:=get xs 3 1 hxl (by omega);obtain⟨y2,g2⟩:=get xs 3 2 hxl (by omega);have f0:=field_at hf 0 _ rfl 3 0 1 rfl rfl s3 g0 [c0] rfl;have f1:=field_at hf 1 _ rfl 3 1 1 rfl rfl s3 g1 [c1] rfl;have f2:=field_at hf 2 _ rfl 3 2 1 rfl rfl s3 g2 [c2] rfl;obtain⟨k,rfl⟩:=int_open f0;obtain⟨x,rfl,w1⟩:=int_openW f1;obtain⟨y,rfl,w2⟩:=int_openW f2;exact⟨k,x,y,rfl,w1,w2⟩
theorem steps_open {x:DataW H×List MemPlace}(h:DataW.trod enc Tryz.prog W 0 (fun _=>true) true fuel 47 [v]=some x)(hw:∀k∈DataW.weights Tryz.prog 47 x.1,k≤reachBytes):∃a n c,v= .slice a n c∧StepsIn W a n c:=by
 rcases open_slice Tryz.underlying47 h with⟨hcs,hx⟩|⟨a,len,cap,m,n,D,Pl,hcs,hb,hl,hm,hmm,hx,hel⟩
 ·exact⟨none,0,0,by simpa using hcs,⟨Nat.le_refl _,by omega,fun i hi=>by omega⟩⟩
 ·simp at hcs hmm;subst hcs;subst hmm;have e3:Tryz.prog.cellsOf 52=3:=by kernel_rfl
  have hwt:m*24≤140737488351232:=by
   have e:Tryz.prog.bytesOf 52=24:=by kernel_rfl
   have:=hw ((len+(m-len))*24) (by rw[hx];simp[DataW.weights,Tryz.underlying47,e]);unfold reachBytes at this;have e2:len+(m-len)=m:=by omega
   rw[e2]at this;omega
  refine⟨some a,len,m,rfl,⟨hl,by omega,fun j hj=>?_⟩⟩;obtain⟨cs,hc1,hc2⟩:=hel j (by omega);rw[e3]at hc1;obtain⟨k,x,y,rfl,w1,w2⟩:=step_open hc2;have hg:=cells_get hc1;have ha:a=⟨a.block,a.off,none⟩∧a.block<W.heap.size:=by
   obtain⟨cs0,d1,d2⟩:=hel 0 (by omega);rw[e3]at d1;obtain⟨_,_,_,rfl,_,_⟩:=step_open d2;have h0:=cells_get d1 0 (by omega);have q3:(a.add (0*3)).add 0=a:=by simp[Addr.add]
   rw[q3]at h0;exact cell_addr (h0.trans rfl)
  obtain⟨ha1,ha2⟩:=ha;rw[ha1,add_plain]at hg;refine⟨a.block,a.off,k,x,y,by rw[←ha1],ha2,?_,?_,?_,w1,w2⟩
  ·have:=hg 0 (by omega);rw[add_plain]at this;exact this
  ·have:=hg 1 (by omega);rw[add_plain]at this;exact this
  ·have:=hg 2 (by omega);rw[add_plain]at this;exact this
theorem raw_openS {x:DataW H×List MemPlace}(h:DataW.trod enc Tryz.prog W 0 (fun _=>true) true fuel 25 [v]=some x)(hw:∀k∈DataW.weights Tryz.prog 25 x.1,k≤reachBytes):∃xs a n c,v= .slice a n c∧RawIn W a n c xs:=by
 rcases open_ints Tryz.underlying25 Tryz.underlying3 (by kernel_rfl) h with⟨hcs,hx⟩|⟨a,len,cap,zs,hcs,hb,hl,hm,hzl,hx,hel,hwf⟩
 ·have:v= .slice none 0 0:=by simpa using hcs
  subst this;exact⟨[],none,0,0,rfl,⟨rfl,Nat.le_refl _,by omega,fun _ _ _ h=>by omega,fun i hi=>by omega,fun i hi=>by omega⟩⟩
 ·simp at hcs hzl;subst hcs;have hwt:cap*8≤140737488351232:=by
   have e:Tryz.prog.bytesOf 3=8:=by kernel_rfl
   have e3:(lits (H:=H) .i64 (zs.take len)).length+(lits (H:=H) .i64 (zs.drop len)).length=cap:=by
    simp[lits];omega
   have:=hw (cap*8) (by rw[hx];simp only[DataW.weights,Tryz.underlying25,e,e3];exact List.mem_cons_self);unfold reachBytes at this;omega
  have hg:∀i,i<len→(zs.take len).getD i 0=zs.getD i 0:=fun i hi=>by
   simp[List.getD,List.getElem?_take_of_lt hi]
  have ha:1≤len→a=⟨a.block,a.off,none⟩∧a.block<W.heap.size:=fun h1=>by
   have h0:=hel 0 (by omega);have ea:a.add 0=a:=by simp[Addr.add]
   rw[ea]at h0;exact cell_addr h0
  refine⟨zs.take len,some a,len,cap,rfl,⟨by simp;omega,hl,by omega,fun g o' e h1=>?_,fun i hi=>?_,fun i hi=>?_⟩⟩
  ·have h2:=(ha h1).2;cases e;exact h2
  ·obtain⟨h1,h2⟩:=ha (by omega);refine⟨a.block,a.off,by rw[←h1],?_⟩;rw[hg i hi];have:=hel i (by omega);rw[h1,add_plain]at this;exact this
  ·rw[hg i hi];refine hwf _ ?_;have hi2:i<zs.length:=by omega
   have hgz:zs.getD i 0=zs[i]:=by simp[List.getD,List.getElem?_eq_getElem hi2]
   rw[hgz];exact List.getElem_mem hi2
theorem lists_open {x:DataW H×List MemPlace}(h:DataW.trod enc Tryz.prog W 0 (fun _=>true) true fuel 46 [v]=some x)(hw:∀k∈DataW.weights Tryz.prog 46 x.1,k≤reachBytes):∃a n c ls,v= .slice a n c∧LisIn W a n c ls:=by
 rcases open_slice1 Tryz.underlying46 (by kernel_rfl) h with⟨hcs,hx⟩|⟨a,len,cap,m,n,V,D,Pl,hcs,hb,hl,hm,hmm,hx,hel⟩
 ·simp at hcs;exact⟨none,0,0,[],hcs,⟨rfl,Nat.le_refl _,by omega,fun i xs hi=>by simp at hi⟩⟩
 ·simp at hcs hmm;subst hcs;subst hmm;have hwt:m*24≤140737488351232:=by
   have e:Tryz.prog.bytesOf 25=24:=by kernel_rfl
   have:=hw ((len+(m-len))*24) (by rw[hx];simp[DataW.weights,Tryz.underlying46,e]);unfold reachBytes at this;have e2:len+(m-len)=m:=by omega
   rw[e2]at this;omega
  have each:∀i,i<len→∃xs a n c,V i= .slice a n c∧RawIn W a n c xs:=fun i hi=>by
   obtain⟨h1,h2⟩:=hel i (by omega);exact raw_openS h2 (fun k hk=>hw k (by
    rw[hx];simp only[DataW.weights,Tryz.underlying46,List.mem_cons,List.mem_append]
    exact .inr (.inl (weightsAll_mem (List.mem_map.2 ⟨i,List.mem_range.2 hi,rfl⟩) k hk))))
  refine⟨some a,len,m,(List.range len).map (fun i=>if h:i<len then Classical.choose (each i h)else []),rfl,⟨by simp,hl,by omega,fun i xs hi=>?_⟩⟩;rw[List.getElem?_map]at hi;by_cases hil:i<len
  ·rw[List.getElem?_range hil]at hi;simp only[Option.map_some,dif_pos hil]at hi;have hx2:Classical.choose (each i hil)=xs:=Option.some.inj hi;obtain⟨ia,im,ic,e1,e2⟩:=Classical.choose_spec (each i hil);rw[hx2]at e2;have h0:=(hel 0 (by omega)).1;have ea:a.add 0=a:=by simp[Addr.add]
   rw[ea]at h0;obtain⟨q1,q2⟩:=cell_addr h0;refine⟨a.block,a.off,ia,im,ic,by rw[←q1],q2,?_,e2⟩;have h1:=(hel i (by omega)).1;rw[q1,add_plain,e1]at h1;exact h1
  ·rw[List.getElem?_eq_none (by simp;omega)]at hi;cases hi
end
end Go.Proofs.YtlonjggfnleolaaGreatDoor
namespace Go.Proofs.YtlonjggfnleolaaGreatDoor
open Go.RowKit Go.Shelf
set_option linter.unusedVariables false
set_option maxHeartbeats 8000000
set_option maxRecDepth 20000
variable {s:SvG}{T:ByteArray}
theorem wrap_u8 (n:Int):IntKind.u8.wrap n=n % 256:=by
 unfold IntKind.wrap;simp[IntKind.bits,IntKind.signed]
def rdOf (W:World)(b:Nat):Nat:=match W.cell? ⟨b,1,none⟩with
 |some (.int _ n)=>n.toNat
 |_=>0
theorem SvK.rdOf {W:World}(h:SvK W s):rdOf W s.b=s.rd:=by
 unfold Go.Proofs.YtlonjggfnleolaaGreatDoor.rdOf;rw[blkCell h.blk 1];simp
structure WkAt (w W:World)(s s1:SvG)(pre:List UInt8)(gs:List Fr)(T:ByteArray)(fs rs:List Fr):Prop where
 eq:gs=fs++rs
 tos:SvTo w W s s1
 rd:s1.rd=(pre++fs.flatMap Fr.by_).length
 st:(s1.L,s1.made)=worksP fs (s.L,s.made)
theorem WkAt.more {w wr wf:World}{sv1 mv1 sv3 mv3:Value}{L1 dL:List (ByteArray×ByteArray)}{rd1:Nat}{made1:List ByteArray}{pre:List UInt8}{gs fs rs:List Fr}{f:Fr}{d1:Bool}{d2:ByteArray}(h:WkAt w wr s ⟨s.b,sv1,L1,rd1,mv1,made1⟩ pre gs T fs (f::rs))(hd:doesP f.k f.key f.val L1=((d1,d2),dL))(hs:SvTo w wf s ⟨s.b,sv3,dL,rd1,mv3,made1++[ansF d1 d2 f.id]⟩)(hT:T.size=(pre++gs.flatMap Fr.by_).length):(∃s1 fs rs,WkAt w (wf.setCell ⟨s.b,1,none⟩ (.int .i64 ((rd1:Int)+(f.by_.length:Int)))) s s1 pre gs T fs rs∧s1.rd≤T.size)∧rdOf (wf.setCell ⟨s.b,1,none⟩ (.int .i64 ((rd1:Int)+(f.by_.length:Int)))) s.b=rd1+f.by_.length:=by
 have e:(rd1:Int)+(f.by_.length:Int)=((rd1+f.by_.length:Nat):Int):=by omega
 rw[e];have k:=hs.at_.reads (rd1+f.by_.length);have hst:=h.st;have hrd:=h.rd;simp only at hst hrd;refine⟨⟨_,fs++[f],rs,⟨by rw[h.eq];simp,hs.trans k,?_,?_⟩,?_⟩,k.at_.rdOf⟩
 ·show rd1+f.by_.length=_;rw[hrd];simp;omega
 ·show(dL,made1++[ansF d1 d2 f.id])=_;rw[worksP_snoc,←hst];unfold workP;rw[hd]
 ·show rd1+f.by_.length≤_;rw[hT,h.eq,hrd];simp;omega
theorem ansF_t (v:ByteArray)(id:Nat):strOfNums [2,IntKind.u8.wrap 0,0,(v.size:Int),0,(id:Int) % 256,(id:Int) / 256]++v=ansF true v id:=by
 unfold ansF;rw[wrap_u8];simp
theorem ansF_f (v:ByteArray)(id:Nat):strOfNums [2,IntKind.u8.wrap 1,0,(v.size:Int),0,(id:Int) % 256,(id:Int) / 256]++v=ansF false v id:=by
 unfold ansF;rw[wrap_u8];simp
theorem ext_to {a b:List UInt8}{n:Nat}(h:T.data.toList=a++b)(hn:n=a.length):T.extract n T.size=mkB b:=by
 subst hn;have e:(T.extract a.length T.size).data.toList=b:=by
  rw[ByteArray.data_extract,Array.toList_extract,h];simp[List.extract];have hl:T.size=a.length+b.length:=by
   have:=congrArg List.length h;rw[Array.length_toList,List.length_append]at this;exact this
  rw[hl,Nat.add_sub_cancel_left];simp
 rw[←mkB_toList (T.extract a.length T.size),e]
attribute [local go_sem ↓] Go.wp_at_zero Go.wp_at_succ
theorem works_any (s:SvG)(pre:List UInt8)(gs:List Fr)(T:ByteArray)(w:World)(hs:SvK w s)(hf:FrsOk gs)(hT:T.data.toList=pre++gs.flatMap Fr.by_)(hr:s.rd=pre.length)(hw:WkOk (s.L,s.made))(hL:s.L.length+gs.length≤1000000000)(hM:s.made.length+gs.length≤1000000000)(hsz:T.size≤100000000000):Calls Tryz.prog 31 #[.pointer (some ⟨s.b,0,none⟩),.string T] w fun e w'=>e= .returned (.bool true)∧∃s',SvTo w w' s s'∧s'.rd=T.size∧(s'.L,s'.made)=worksP gs (s.L,s.made):=by
 have hTs:T.size=(pre++gs.flatMap Fr.by_).length:=by rw[←hT,Array.length_toList];rfl
 have HX:=hide' (And.intro hT (And.intro hf (And.intro hw (And.intro hL (And.intro hM hTs)))));have HIn:Hid (∃s1 fs rs,WkAt w w s s1 pre gs T fs rs∧s1.rd≤T.size):=⟨s,[],gs,⟨rfl,SvTo.refl hs,by simp[hr],rfl⟩,by rw[hTs,hr,List.length_append];omega⟩
 clear hs hf hT hr hw hL hM hTs;go_enter Tryz.func31,Tryz.ntmps31;go_wp2_with fail
 go_loopw [5,6,7,8,9,10] (fun _ _ _ _ _ _ wr=>Hid (∃s1 fs rs,WkAt w wr s s1 pre gs T fs rs∧s1.rd≤T.size)) (fun _ _ _ _ _ _ wr=>T.size-rdOf wr s.b)
 case atStart=>exact HIn
 case round=>
  obtain⟨⟨b1,sv1,L1,rd1,mv1,made1⟩,fs,rs,hk,hle⟩:=hrel;have hb1:b1=s.b:=hk.tos.b;subst hb1;have HK:=hide' hk;clear hk HIn;have hle:rd1≤T.size:=hle;have c1:=blkCell HK.out.tos.at_.blk 1;simp at c1;have hbl:=blkLt HK.out.tos.at_.blk;simp only at hbl;have HRd:Hid (rdOf wr s.b=rd1):=HK.out.tos.at_.rdOf;cases rs with
  |nil=>
   have hend:rd1=T.size:=by
    have h1:=HK.out.rd;have h2:=HK.out.eq;rw[List.append_nil]at h2;rw[←h2,←HX.out.2.2.2.2.2]at h1;exact h1
   have hlt':¬(rd1:Int)<(T.size:Int):=by omega
   have HE:Hid (∃s',SvTo w wr s s'∧s'.rd=T.size∧(s'.L,s'.made)=worksP gs (s.L,s.made)):=⟨_,HK.out.tos,hend,by rw[HK.out.eq,List.append_nil];exact HK.out.st⟩
   clear HX HK HRd;go_wp2_with fail
   go_ret;exact⟨rfl,HE.out⟩
  |cons f rs=>
   have hFk:FrOk f:=HX.out.2.1 f (by rw[HK.out.eq];simp);have HF:=hide' hFk;have hsp:T.data.toList=(pre++fs.flatMap Fr.by_)++(f.by_++rs.flatMap Fr.by_):=by
    rw[HX.out.1,HK.out.eq];simp
   have hex:=ext_to hsp HK.out.rd;simp only at hex;have hlen:rd1+(f.by_.length+(rs.flatMap Fr.by_).length)=T.size:=by
    have h1:=congrArg List.length hsp;rw[List.length_append,←HK.out.rd,List.length_append,Array.length_toList]at h1;exact h1.symm
   have hf7:=(Fr.by_len hFk).1;have hlt':(rd1:Int)<(T.size:Int):=by omega
   have hCall:=kframe_any hFk (rs.flatMap Fr.by_) wr (by rw[List.length_append];omega);rw[←hex]at hCall;have HC:=hide' hCall;clear hCall hex hsp hFk;go_wp2_with fail
   go_at_call 38;refine HC.out.mono ?_;rintro e w1 ⟨⟨K,rfl,hK,hKw⟩,hB1⟩;have HB1:=hide' hB1;have HKc:=hide' (And.intro hK hKw);clear hB1 hK hKw HC c1 hbl;go_wp2_with fail
   have HSv:Hid (SvTo w (w1.alloc (.cells #[.int .i64 f.k,.slice (some ⟨K,0,none⟩) 1 1,.string f.val,.string ⟨#[]⟩,.bool false,.int .i64 (f.id:Int)] 36)).drew s ⟨s.b,sv1,L1,rd1,mv1,made1⟩):=HK.out.tos.below ((HB1.out.alloc HB1.out.size _).drew);have hCold:wr.heap.size≤w1.heap.size:=HB1.out.size;have HCn:Hid (∀b∈SvG.foot ⟨s.b,sv1,L1,rd1,mv1,made1⟩,b<wr.heap.size):=HK.out.tos.at_.old;have HC6:=hide' (blkNew w1 (.cells #[.int .i64 f.k,.slice (some ⟨K,0,none⟩) 1 1,.string f.val,.string ⟨#[]⟩,.bool false,.int .i64 (f.id:Int)] 36 (0,0)));have hK0:(w1.alloc (.cells #[.int .i64 f.k,.slice (some ⟨K,0,none⟩) 1 1,.string f.val,.string ⟨#[]⟩,.bool false,.int .i64 (f.id:Int)] 36)).cell? ⟨K,0,none⟩=some (.string f.key):=by
    have h1:=blkCell (((Below.refl _ w1).alloc (Nat.le_refl _) (.cells #[.int .i64 f.k,.slice (some ⟨K,0,none⟩) 1 1,.string f.val,.string ⟨#[]⟩,.bool false,.int .i64 (f.id:Int)] 36)).block K (blkLt HKc.out.1) |>.trans HKc.out.1) 0;simpa using h1
   have hKl:K<w1.heap.size+1:=by have:=blkLt HKc.out.1;omega
   have hbl:s.b<w1.heap.size+1:=by have:=HCn.out s.b (by simp[SvG.foot]);omega
   have hl2:(w1.alloc (.cells #[.int .i64 f.k,.slice (some ⟨K,0,none⟩) 1 1,.string f.val,.string ⟨#[]⟩,.bool false,.int .i64 (f.id:Int)] 36)).heap.size=w1.heap.size+1:=by simp
   generalize hw2:w1.alloc (.cells #[.int .i64 f.k,.slice (some ⟨K,0,none⟩) 1 1,.string f.val,.string ⟨#[]⟩,.bool false,.int .i64 (f.id:Int)] 36)=w2 at*;clear hw2;have HSt:=hide' HK.out.st;have hL1:L1.length≤1000000000:=by
    have h1:=(worksP_ok fs (s.L,s.made) (fun g hg=>HX.out.2.1 g (by rw[HK.out.eq];simp[hg])) HX.out.2.2.1).2.1;rw[←HK.out.st]at h1;have h2:=HX.out.2.2.2.1;have h3:fs.length≤gs.length:=by rw[HK.out.eq];simp
    simp only at h1;omega
   have HDo:=hide' (does_any s.b 68 #[sv1,.int .i64 (rd1:Int),mv1] L1 sv1 f.key f.val w2.drew f.k (by decide) HSv.out.at_.blk rfl HSv.out.at_.rL hL1);have HDid:Hid (∀w3 v',ShTo w2.drew w3 s.b 68 #[sv1,.int .i64 (rd1:Int),mv1] sv1 v' (doesP f.k f.key f.val L1).2→SvTo w w3 s ⟨s.b,v',(doesP f.k f.key f.val L1).2,rd1,mv1,made1⟩∧(∀j u,w2.cell? ⟨w1.heap.size,j,none⟩=some u→w3.cell? ⟨w1.heap.size,j,none⟩=some u)∧(w2.cell? ⟨K,0,none⟩=some (.string f.key)→w3.cell? ⟨K,0,none⟩=some (.string f.key))∧w3.heap[w1.heap.size]?=w2.heap[w1.heap.size]?):=fun w3 v' h3=>by
    have key:∀b,wr.heap.size≤b→b<w2.heap.size→w3.heap[b]?=w2.heap[b]?:=fun b hb hb2=>by
     refine h3.chg.block _ hb2 (fun hm=>?_);rcases List.mem_cons.1 hm with e|e
     ·have:=HCn.out s.b (by simp[SvG.foot]);omega
     ·have:=HCn.out _ (by simp only[SvG.foot,List.mem_cons,List.mem_append];exact .inr (.inl e));omega
    have ck:∀b j,wr.heap.size≤b→b<w2.heap.size→w3.cell? ⟨b,j,none⟩=w2.cell? ⟨b,j,none⟩:=fun b j h1 h2=>by
     unfold World.cell?;rw[key b h1 h2]
    exact⟨HSv.out.trans (HSv.out.at_.does h3),fun j u hu=>(ck _ j hCold (by rw[hl2];omega)).trans hu,fun hu=>(ck K 0 HKc.out.2 (by rw[hl2];exact hKl)).trans hu,key _ hCold (by rw[hl2];omega)⟩
   unfold DoesTo at HDo;generalize hdp:doesP f.k f.key f.val L1=dp at*;obtain⟨⟨d1,d2⟩,dL⟩:=dp;simp only at HDo HDid;have HDp:=hide' hdp;clear hdp;have HLn:=hide' (And.intro hL1 (And.intro hle hlen));clear hL1;generalize hC:w1.heap.size=C at*;have c0:=blkCell HC6.out 0;have c1:=blkCell HC6.out 1;have c2:=blkCell HC6.out 2;have c5:=blkCell HC6.out 5;simp at c0 c1 c2 c5;go_region_held3 (fun W'=>W'.cell? ⟨C,0,none⟩=some (.int .i64 f.k)∧W'.cell? ⟨C,1,none⟩=some (.slice (some ⟨K,0,none⟩) 1 1)∧W'.cell? ⟨C,2,none⟩=some (.string f.val)∧W'.cell? ⟨K,0,none⟩=some (.string f.key)) (go_keep) (first
    |(go_at_call 61;refine HDo.out.mono ?_;rintro e w3 ⟨rfl,sv3,h3⟩;have h3a:=HDid.out w3 sv3 h3;have HD3:=hide' h3a.1;have x0:=h3a.2.1 0 _ c0;have x1:=h3a.2.1 1 _ c1;have x2:=h3a.2.1 2 _ c2;have x5:=h3a.2.1 5 _ c5;have xk:=h3a.2.2.1 hK0;have HCb:=hide' (h3a.2.2.2.trans HC6.out);clear h3 h3a c0 c1 c2 c5 hK0)
    |fail)
   rename_i hHeld;have hCl:=blkLt HCb.out;have hCs:C≠s.b:=fun e=>by
    have h1:=HD3.out.at_.blk;simp only at h1;rw[←e,HCb.out]at h1;cases h1
   have hCs2:s.b≠C:=fun e=>hCs e.symm
   clear hHeld x0 x1 x2 xk HDo HDid hKl hbl hCold HKc HCn HB1 HSv HC6 hC hl2;have hmr:=HD3.out.at_.rM;obtain⟨ma,mc,hmv,hmc,_⟩:=row_sl hmr;simp only at hmv;generalize hmn:made1.length=n at*;subst hmv;have HRF:Hid (∀O O2,((w3.alloc O).alloc O2).drew.ownsRow 0 9 1 (.slice ma n mc) n (made1.map .string)):=fun O O2=>World.ownsRow.alloc (World.ownsRow.alloc hmr O) O2
   have HCm:Hid (some C≠(Value.slice ma n mc).ownBlock):=fun e=>by
    obtain⟨cur,hc⟩:=ownsRow_blk hmr e.symm;rw[HCb.out]at hc;cases hc
   clear hmr;have HD4:Hid (SvTo w w3.drew s ⟨s.b,sv3,dL,rd1,.slice ma n mc,made1⟩):=HD3.out.below (Below.refl _ _).drew;have hbl:=blkLt HD3.out.at_.blk;simp only at hbl;have b2:=blkCell HD3.out.at_.blk 2;simp at b2;have hid:=HF.out.id;have hok:=(doesP_small (kind:=f.k) (k:=f.key) (L:=L1) (x:=f.val) (by
    have h1:=(worksP_ok fs (s.L,s.made) (fun g hg=>HX.out.2.1 g (by rw[HK.out.eq];simp[hg])) HX.out.2.2.1).1.1;rw[←HK.out.st]at h1;exact h1) HF.out.val).2.1
   rw[HDp.out]at hok;simp only at hok;have hnn:n+1≤1000000000:=by
    have h1:=(worksP_ok fs (s.L,s.made) (fun g hg=>HX.out.2.1 g (by rw[HK.out.eq];simp[hg])) HX.out.2.2.1).2.2;rw[←HK.out.st]at h1;have h2:=HX.out.2.2.2.2.1;have h3:fs.length+1≤gs.length:=by rw[HK.out.eq];simp
    simp only at h1;omega
   obtain⟨i9,h91,h92,h93,h94⟩:=info9s;have HI9:=hide' (And.intro h91 (And.intro h92 (And.intro h93 h94)));clear h91 h92 h93 h94;have u1:IntKind.u8.wrap (d2.size:Int)=(d2.size:Int):=by rw[wrap_u8];omega
   have u2:IntKind.u8.wrap (f.id:Int)=((f.id % 256:Nat):Int):=by rw[wrap_u8];omega
   have u3:IntKind.u8.wrap ((f.id:Int) / 256)=((f.id / 256:Nat):Int):=by rw[wrap_u8];omega
   have hsz7:∀l,(strOfNums l).size=l.length:=strOfNums_size;have hcat:¬9223372036854775807<7+d2.size:=by omega
   have hcv:∀b0 b1 b2 b3 b4 b5 b6:Int,(convert 80 9 (.slice (some ⟨w3.heap.size,0,none⟩) 7 7)).run Tryz.prog (w3.alloc (.cells #[.int .u8 b0,.int .u8 b1,.int .u8 b2,.int .u8 b3,.int .u8 b4,.int .u8 b5,.int .u8 b6] 5)).drew= .ok (.string (strOfNums [b0,b1,b2,b3,b4,b5,b6])) (w3.alloc (.cells #[.int .u8 b0,.int .u8 b1,.int .u8 b2,.int .u8 b3,.int .u8 b4,.int .u8 b5,.int .u8 b6] 5)).drew:=fun b0 b1 b2 b3 b4 b5 b6=>conv7 w3.drew b0 b1 b2 b3 b4 b5 b6
   have HPu:Hid (∀(O O2:Obj) (g cap:Nat) (w9:World) (x:ByteArray),w9.ownsRow 0 9 1 (.slice (some ⟨g,0,none⟩) (n+1) cap) (n+1) (made1.map .string++[.string x])→((w3.alloc O).alloc O2).drew.grownBy w9 (Value.slice ma n mc).ownBlock→((Value.slice ma n mc).ownBlock=some g∨g=w3.heap.size+2)→SvTo w (w9.setCell ⟨s.b,2,none⟩ (.slice (some ⟨g,0,none⟩) (n+1) cap)) s ⟨s.b,sv3,dL,rd1,.slice (some ⟨g,0,none⟩) (n+1) cap,made1++[x]⟩∧w9.frozen? ⟨s.b,2,none⟩=false∧s.b<w9.heap.size∧w9.cell? ⟨s.b,2,none⟩=some (Value.slice ma n mc)∧w9.cell? ⟨C,5,none⟩=some (.int .i64 (f.id:Int))):=fun O O2 g cap w9 x h1 h2 h3=>by
    have hb9:=(h2.block C (by simp;omega) HCm.out).trans ((((Below.refl _ w3).alloc (Nat.le_refl _) O).alloc (by simp) O2).drew.block C hCl);obtain⟨p1,p2,p3,p4,p5⟩:=SvK.push (w:=w3.drew) (w9:=w9) (O:=O) (O2:=O2) (g:=g) (cap:=cap) (x:=x) HD4.out.at_ hmn h1 h2 h3;exact⟨HD4.out.trans p1,p2,p3,p4,(World.cell?_of_block hb9).trans x5⟩
   have HAll:=hide' (And.intro hlen (And.intro hf7 (And.intro hlt' (And.intro hle (And.intro hmn hmc)))));have hrl:IntKind.i64.wrap ((rd1:Int)+(f.by_.length:Int))=(rd1:Int)+(f.by_.length:Int):=wrap_small _ (by omega) (by omega);clear hlen hf7 hlt' hle hmn HF HLn HSt HD3 HD4 hok hid HCb HCm;cases d1 with
   |true=>
    go_wp2_with fail
    go_region_law (first
     |((refine step_append_lies _ (by rfl) _ _ _ (by rfl) 0 9 i9 (.string ⟨#[]⟩) 1 16 Tryz.underlying34 HI9.out.1 HI9.out.2.1 HI9.out.2.2.1 HI9.out.2.2.2 rfl (by omega) (.slice ma n mc) n (made1.map .string) (by rfl) (HRF.out _ _) ⟨w3.heap.size+1,0,none⟩ 1 1 _ (by rfl) (by rfl) (World.news_of_block (hs_new (by simp))) (fun u hu=>by simp at hu;subst hu;rfl) (by omega) (by unfold maxLen;omega) (by omega) (Nat.zero_le _) (w3.heap.size+2) (by simp) ?_;intro g9 cap9 w9 hown hgr hat hlt;have hp:=HPu.out _ _ g9 cap9 w9 _ hown hgr hat;have HP9:=hide' hp.1;have cf9:=hp.2.1;have hBl9:=hp.2.2.1;have cc9:=hp.2.2.2.1;have xx9:=hp.2.2.2.2;clear hp hown hgr hat))
     |fail)
    all_goals(rw[ansF_t]at HP9;have hz:=HK.out.more HDp.out HP9.out HX.out.2.2.2.2.2;have HZ:=hide' hz;clear hz HPu HRF HI9 hcv hsz7 cf9 hBl9 cc9 xx9 x5 b2 hbl;generalize w9.setCell ⟨s.b,2,none⟩ (.slice (some ⟨g9,0,none⟩) (n+1) cap9)=wf at*;have r1:=blkCell HP9.out.at_.blk 1;have rl:=blkLt HP9.out.at_.blk;have rf:=blkFree HP9.out.at_.blk 1;simp at r1;simp only at rl rf;clear HP9;go_wp2_with fail;go_roundw;(case rel=>exact HZ.out.1);(case measure=>rw[HZ.out.2,HRd.out];have:=HAll.out;omega))
   |false=>
    go_wp2_with fail
    go_region_law (first
     |((refine step_append_lies _ (by rfl) _ _ _ (by rfl) 0 9 i9 (.string ⟨#[]⟩) 1 16 Tryz.underlying34 HI9.out.1 HI9.out.2.1 HI9.out.2.2.1 HI9.out.2.2.2 rfl (by omega) (.slice ma n mc) n (made1.map .string) (by rfl) (HRF.out _ _) ⟨w3.heap.size+1,0,none⟩ 1 1 _ (by rfl) (by rfl) (World.news_of_block (hs_new (by simp))) (fun u hu=>by simp at hu;subst hu;rfl) (by omega) (by unfold maxLen;omega) (by omega) (Nat.zero_le _) (w3.heap.size+2) (by simp) ?_;intro g9 cap9 w9 hown hgr hat hlt;have hp:=HPu.out _ _ g9 cap9 w9 _ hown hgr hat;have HP9:=hide' hp.1;have cf9:=hp.2.1;have hBl9:=hp.2.2.1;have cc9:=hp.2.2.2.1;have xx9:=hp.2.2.2.2;clear hp hown hgr hat))
     |fail)
    all_goals(rw[ansF_f]at HP9;have hz:=HK.out.more HDp.out HP9.out HX.out.2.2.2.2.2;have HZ:=hide' hz;clear hz HPu HRF HI9 hcv hsz7 cf9 hBl9 cc9 xx9 x5 b2 hbl;generalize w9.setCell ⟨s.b,2,none⟩ (.slice (some ⟨g9,0,none⟩) (n+1) cap9)=wf at*;have r1:=blkCell HP9.out.at_.blk 1;have rl:=blkLt HP9.out.at_.blk;have rf:=blkFree HP9.out.at_.blk 1;simp at r1;simp only at rl rf;clear HP9;go_wp2_with fail;go_roundw;(case rel=>exact HZ.out.1);(case measure=>rw[HZ.out.2,HRd.out];have:=HAll.out;omega))
variable {w0 W:World}{P X sv pt win T:Nat}{st:List CliQ×List SrvQ}{D:PlD}
theorem PlayV.pc (h:PlayV w0 W P X sv pt win T st D):W.cell? ⟨P,0,none⟩=some (.pointer (some ⟨X,0,none⟩))∧W.cell? ⟨P,1,none⟩=some D.v1∧W.cell? ⟨P,2,none⟩=some D.v2∧W.cell? ⟨P,3,none⟩=some D.v3∧W.cell? ⟨P,5,none⟩=some D.v5∧P<W.heap.size:=by
 have b:=h.blk;refine⟨?_,?_,?_,?_,?_,blkLt b⟩
 ·have:=blkCell b 0;simpa [ptrV]using this
 ·have:=blkCell b 1;simpa using this
 ·have:=blkCell b 2;simpa using this
 ·have:=blkCell b 3;simpa using this
 ·have:=blkCell b 5;simpa using this
theorem PlayV.putSd (h:PlayV w0 W P X sv pt win T st D){g n c i m:Nat}(hv:D.v3= .slice (some ⟨g,0,none⟩) n c)(hn:D.sd.length=n)(hi:i<n):PlayV w0 (W.setCell ⟨g,i,none⟩ (.int .i64 (m:Int))) P X sv pt win T st {D with sd:=D.sd.set i m}∧W.frozen? ⟨g,i,none⟩=false:=by
 obtain⟨M,h1,h2,h3⟩:=h;have hr:D.rows[2]?=some ⟨3,D.v3,intsV D.sd⟩:=rfl;have hrow:=h1.row _ (List.mem_of_getElem? hr);simp only[hv]at hrow;have hl:(intsV D.sd).length=n:=by unfold intsV;rw[List.length_map];exact hn
 rw[hl]at hrow;have hst:=World.ownsRow.stored hrow i (.int .i64 (m:Int));have hxs:(intsV D.sd).set i (.int .i64 (m:Int))=intsV (D.sd.set i m):=by unfold intsV;rw[List.map_set]
 rw[hxs]at hst;have hl2:(intsV (D.sd.set i m)).length=n:=by unfold intsV;rw[List.length_map,List.length_set];exact hn
 obtain⟨a1,a2,a3⟩:=h1.put hr (g:=g) (n:=n) (cap:=c) (c:=i) hv (xs':=intsV (D.sd.set i m)) (u:= .int .i64 (m:Int)) (by rw[hl2];simp only[hv];exact hst.1);have hF:∀b∈[g],FK P D.rows D.S b:=fun b hb=>by rw[List.mem_singleton.1 hb];exact a3
 refine⟨⟨M,?_,h1.jkeep h2 a2 hF,below_chg h3 h3.size a2 (fun b hb=>(h1.apM b (hF b hb)).2)⟩,?_⟩
 ·exact a1
 ·obtain⟨cur,hc⟩:=ownsRow_blk hrow rfl;exact blkFree hc i
section
variable {gs:List Int}{w W:World}{P X sv pt win:Nat}{css:List (List Cmd)}{sd:List Nat}{st:List CliQ×List SrvQ}{D:PlD}
end
variable {gs:List Int}{css:List (List Cmd)}{sd:List Nat}{c n j:Nat}{w:World}{a:Option Addr}
def sdTo (gs:List Int)(css:List (List Cmd))(sd:List Nat)(c:Nat):List Nat:=sd.mapIdx (fun i n=>if i<c then(txI gs css i).length else n)
theorem sdTo_zero (gs:List Int)(css:List (List Cmd))(sd:List Nat):sdTo gs css sd 0=sd:=by
 refine List.ext_getElem? (fun i=>?_);unfold sdTo;rw[List.getElem?_mapIdx];cases sd[i]?<;>simp
theorem sdTo_get (h:sd[c]?=some n):(sdTo gs css sd c)[c]?=some n:=by
 unfold sdTo;rw[List.getElem?_mapIdx,h];simp
theorem sdTo_succ (h:c<sd.length):(sdTo gs css sd c).set c (txI gs css c).length=sdTo gs css sd (c+1):=by
 refine List.ext_getElem? (fun i=>?_);rw[List.getElem?_set];split
 ·rename_i e;subst e;rw[if_pos (by unfold sdTo;rw[List.length_mapIdx];exact h)];unfold sdTo;rw[List.getElem?_mapIdx,List.getElem?_eq_getElem h];simp
 ·rename_i e;unfold sdTo;rw[List.getElem?_mapIdx,List.getElem?_mapIdx];cases sd[i]?with
  |none=>rfl
  |some n=>
   simp only[Option.map_some]
   by_cases h1:i<c
   ·rw[if_pos h1,if_pos (by omega)]
   ·rw[if_neg h1,if_neg (by omega)]
theorem sdTo_rest (hl:sd.length=css.length){i:Nat}(hi:i<css.length):restOf gs css (sdTo gs css sd css.length) i=[]:=by
 unfold restOf sdTo;rw[List.getElem?_mapIdx,List.getElem?_eq_getElem (by omega)];simp only[Option.map_some,if_pos hi,Option.getD_some]
 exact List.drop_eq_nil_of_le (Nat.le_refl _)
section
variable {gs:List Int}{w W:World}{P X sv pt win:Nat}{css:List (List Cmd)}{sd sd':List Nat}{st:List CliQ×List SrvQ}{D:PlD}
end
def KindAt (w:World)(sa:Option Addr)(j:Nat)(k:Int):Prop:=∃(g o:Nat) (x y:Int),sa=some ⟨g,o,none⟩∧g<w.heap.size∧w.cell? ⟨g,o+j*3,none⟩=some (.int .i64 k)∧w.cell? ⟨g,o+j*3+1,none⟩=some (.int .i64 x)∧w.cell? ⟨g,o+j*3+2,none⟩=some (.int .i64 y)∧(Lit.int .i64 x).wf=true∧(Lit.int .i64 y).wf=true
theorem StepsIn.kind (h:StepsIn w a n c)(hj:j<n):∃k,KindAt w a j k:=by
 obtain⟨g,o,k,x,y,h1⟩:=h.by_ j hj;exact⟨k,g,o,x,y,h1⟩
theorem KindAt.at_ {k:Int}(h:KindAt w a j k):∃(g o:Nat) (x y:Int),a=some ⟨g,o,none⟩∧(Lit.int .i64 x).wf=true∧(Lit.int .i64 y).wf=true∧∀W,Below w.heap.size w W→g<W.heap.size∧W.cell? ⟨g,o+j*3,none⟩=some (.int .i64 k)∧W.cell? ⟨g,o+j*3+1,none⟩=some (.int .i64 x)∧W.cell? ⟨g,o+j*3+2,none⟩=some (.int .i64 y):=by
 obtain⟨g,o,x,y,h1,h2,h3,h4,h5,h6,h7⟩:=h;exact⟨g,o,x,y,h1,h6,h7,fun W hb=>⟨Nat.lt_of_lt_of_le h2 hb.size,(hb.cell (p:=⟨g,_,none⟩) h2).trans h3,(hb.cell (p:=⟨g,_,none⟩) h2).trans h4,(hb.cell (p:=⟨g,_,none⟩) h2).trans h5⟩⟩
variable {j i o id:Nat}{cs:List Cmd}
structure En where
 i:Nat
 n:Nat
 m:Nat
 k:Int
 key:ByteArray
 val:ByteArray
def frsE (es:List En):List Fr:=es.mapIdx (fun j e=>⟨e.k,e.key,e.val,j⟩)
theorem frsE_snoc (es:List En)(e:En):frsE (es++[e])=frsE es++[⟨e.k,e.key,e.val,es.length⟩]:=by
 unfold frsE;rw[List.mapIdx_append];simp
theorem frsE_get {es:List En}{e:En}(h:es[j]?=some e):(frsE es)[j]?=some ⟨e.k,e.key,e.val,j⟩:=by
 unfold frsE;rw[List.getElem?_mapIdx,h];rfl
theorem frsE_len (es:List En):(frsE es).length=es.length:=List.length_mapIdx
def updF {α:Type}(f:Nat→α)(i:Nat)(x:α):Nat→α:=fun j=>if j=i then x else f j
theorem updF_same {α:Type}(f:Nat→α)(i:Nat)(x:α):updF f i x i=x:=if_pos rfl
theorem updF_ne {α:Type}(f:Nat→α)(x:α)(h:j≠i):updF f i x j=f j:=if_neg h
def partsK (i n:Nat)(k:Int)(val:ByteArray)(ks:List ByteArray):List En:=ks.mapIdx (fun m key=>⟨i,n,m,k,key,val⟩)
theorem partsK_snoc (i n:Nat)(k:Int)(val:ByteArray)(ks:List ByteArray)(key:ByteArray):partsK i n k val (ks++[key])=partsK i n k val ks++[⟨i,n,ks.length,k,key,val⟩]:=by
 unfold partsK;rw[List.mapIdx_append];simp
def partsN (i:Nat)(cs:List Cmd):Nat→List En
 |0=>[]
 |n+1=>partsN i cs n++(match cs[n]?with|some c=>partsK i n c.kind c.val c.keys|none=>[])
theorem partsN_succ {n:Nat}{c:Cmd}(h:cs[n]?=some c):partsN i cs (n+1)=partsN i cs n++partsK i n c.kind c.val c.keys:=by
 show partsN i cs n++_=_;rw[h]
theorem partsN_len (h:∀c∈cs,c.keys.length≤4):∀n,(partsN i cs n).length≤4*n:=by
 intro n;induction n with
 |zero=>exact Nat.le_refl _
 |succ n ih=>
  show(partsN i cs n++_).length≤_;rw[List.length_append];cases hc:cs[n]?with
  |none=>simp;omega
  |some c=>
   have:=h c (List.mem_of_getElem? hc);simp only[partsK,List.length_mapIdx]
   omega
structure LgI (Fl:Prop)(sv pt:Nat)(N:Nat→List En)(L:Nat→List En):Prop where
 sub:∀o i,((L o).filter (fun e=>e.i==i)).Sublist ((N i).filter (fun e=>ownerN sv pt e.key==o))
 eq:¬Fl→∀o i,(L o).filter (fun e=>e.i==i)=(N i).filter (fun e=>ownerN sv pt e.key==o)
 c4:∀o,∀e∈L o,e.i<4
theorem four_len:∀l:List En,(∀e∈l,e.i<4)→l.length=(l.filter (fun e=>e.i==0)).length+(l.filter (fun e=>e.i==1)).length+(l.filter (fun e=>e.i==2)).length+(l.filter (fun e=>e.i==3)).length:=by
 intro l;induction l with
 |nil=>intro _;rfl
 |cons e l ih=>
  intro h;have h1:=ih (fun x hx=>h x (by simp[hx]));have h2:=h e (by simp);have:e.i=0∨e.i=1∨e.i=2∨e.i=3:=by omega
  rcases this with h|h|h|h<;>(simp only[List.filter_cons,h,List.length_cons];simp;omega)
section
variable {Fl:Prop}{sv pt:Nat}{N L:Nat→List En}
theorem LgI.short (h:LgI Fl sv pt N L)(hN:∀i,(N i).length≤200)(o:Nat):(L o).length≤800:=by
 have hl:∀i,((L o).filter (fun e=>e.i==i)).length≤200:=fun i=>Nat.le_trans (h.sub o i).length_le (Nat.le_trans (List.length_filter_le _ _) (hN i))
 rw[four_len (L o) (h.c4 o)];have:=hl 0;have:=hl 1;have:=hl 2;have:=hl 3;omega
theorem LgI.sent (h:LgI Fl sv pt N L)(e:En)(he:e.i<4):LgI Fl sv pt (updF N e.i (N e.i++[e])) (updF L (ownerN sv pt e.key) (L (ownerN sv pt e.key)++[e])):=by
 have key:∀(o i:Nat),∃a b t,(updF L (ownerN sv pt e.key) (L (ownerN sv pt e.key)++[e]) o).filter (fun e=>e.i==i)=a++t∧(updF N e.i (N e.i++[e]) i).filter (fun e=>ownerN sv pt e.key==o)=b++t∧a=(L o).filter (fun e=>e.i==i)∧b=(N i).filter (fun e=>ownerN sv pt e.key==o):=fun o i=>by
  by_cases ho:o=ownerN sv pt e.key
  ·subst ho;rw[updF_same,List.filter_append];by_cases hi:i=e.i
   ·subst hi;rw[updF_same,List.filter_append];exact⟨_,_,[e],by simp,by simp,rfl,rfl⟩
   ·rw[updF_ne _ _ hi];exact⟨_,_,[],by simp;exact fun h=>hi h.symm,by simp,rfl,rfl⟩
  ·rw[updF_ne _ _ ho];by_cases hi:i=e.i
   ·subst hi;rw[updF_same,List.filter_append];exact⟨_,_,[],by simp,by simp;exact fun h=>ho h.symm,rfl,rfl⟩
   ·rw[updF_ne _ _ hi];exact⟨_,_,[],by simp,by simp,rfl,rfl⟩
 refine⟨fun o i=>?_,fun hF o i=>?_,fun o x hx=>?_⟩
 ·obtain⟨a,b,t,h1,h2,h3,h4⟩:=key o i;rw[h1,h2,h3,h4];exact(h.sub o i).append (List.Sublist.refl _)
 ·obtain⟨a,b,t,h1,h2,h3,h4⟩:=key o i;rw[h1,h2,h3,h4,h.eq hF o i]
 ·unfold updF at hx;split at hx
  ·rcases List.mem_append.1 hx with e1|e1
   ·exact h.c4 _ x e1
   ·rw[List.mem_singleton.1 e1];exact he
  ·exact h.c4 o x hx
theorem LgI.lost (h:LgI Fl sv pt N L)(e:En)(hF:Fl):LgI Fl sv pt (updF N e.i (N e.i++[e])) L:=by
 refine⟨fun o i=>?_,fun h=>absurd hF h,h.c4⟩;by_cases hi:i=e.i
 ·subst hi;rw[updF_same,List.filter_append];exact(h.sub o e.i).trans (List.sublist_append_left _ _)
 ·rw[updF_ne _ _ hi];exact h.sub o i
end
def SrvsL (ss:List SrvQ)(L:Nat→List En):Prop:=∀(o:Nat) (u:SrvQ),ss[o]?=some u→u.sent=(frsE (L o)).flatMap Fr.by_∧u.next=(L o).length
def Ext (L L':Nat→List En):Prop:=∀o,∃t,L' o=L o++t
theorem Ext.refl (L:Nat→List En):Ext L L:=fun o=>⟨[],by simp⟩
theorem Ext.trans {A B C:Nat→List En}(h:Ext A B)(k:Ext B C):Ext A C:=fun o=>by
 obtain⟨t,e1⟩:=h o
 obtain⟨t',e2⟩:=k o
 exact⟨t++t',by rw[e2,e1,List.append_assoc]⟩
theorem Ext.get {A B:Nat→List En}(h:Ext A B){e:En}(he:(A o)[j]?=some e):(B o)[j]?=some e:=by
 obtain⟨t,e1⟩:=h o;rw[e1,List.getElem?_append_left (List.getElem?_eq_some_iff.1 he).1];exact he
theorem Ext.len {A B:Nat→List En}(h:Ext A B)(o:Nat):(A o).length≤(B o).length:=by
 obtain⟨t,e1⟩:=h o;rw[e1,List.length_append];omega
theorem freeJ_zero {nx:Nat}{ids:List Nat}(h:∀x∈ids,x<nx)(hn:nx<65536):freeJ nx ids=0:=by
 unfold freeJ;have h1:ids.contains ((nx+0) % 65536)=false:=by
  rw[Nat.add_zero,Nat.mod_eq_of_lt hn];cases hc:ids.contains nx with
  |false=>rfl
  |true=>
   have:=h nx (by simpa using hc);omega
 rw[List.range_succ_eq_map,List.find?_cons_of_pos (by rw[h1];rfl)];rfl
theorem mem_opPs {ps:List PS}:(o,id)∈opPs ps↔ .op o id∈ps:=by
 unfold opPs;rw[List.mem_filterMap];constructor
 ·rintro ⟨p,h1,h2⟩;cases p using PS.el<;>simp at h2;obtain⟨rfl,rfl⟩:=h2;exact h1
 ·intro h;exact⟨_,h,rfl⟩
theorem mem_opQs {qs:List QS}:(o,id)∈opQs qs↔∃x∈qs,.op o id∈x.ps:=by
 unfold opQs;rw[List.mem_flatMap];constructor
 ·rintro ⟨x,h1,h2⟩;exact⟨x,h1,mem_opPs.1 h2⟩
 ·rintro ⟨x,h1,h2⟩;exact⟨x,h1,mem_opPs.2 h2⟩
theorem mem_opJ {cs:List CliQ}:(o,id)∈opJ cs↔∃s∈cs,∃x∈s.qs,.op o id∈x.ps:=by
 unfold opJ;rw[List.mem_flatMap];constructor
 ·rintro ⟨s,h1,h2⟩;exact⟨s,h1,mem_opQs.1 h2⟩
 ·rintro ⟨s,h1,h2⟩;exact⟨s,h1,mem_opQs.2 h2⟩
structure SendTo (Fl:Prop)(sv pt i n:Nat)(k:Int)(val:ByteArray)(N L:Nat→List En)(ks:List ByteArray)(st:List SrvQ×List PS)(L':Nat→List En):Prop where
 lg:LgI Fl sv pt (updF N i (N i++partsK i n k val ks)) L'
 sr:SrvsL st.1 L'
 ext:Ext L L'
 len:st.2.length=ks.length
 ps:∀(m:Nat) (p:PS),st.2[m]?=some p→∃key,ks[m]?=some key∧((p= .fl∧Fl)∨∃id,p= .op (ownerN sv pt key) id∧(L (ownerN sv pt key)).length≤id∧(L' (ownerN sv pt key))[id]?=some ⟨i,n,m,k,key,val⟩)
 new:∀(o j:Nat) (e:En),(L' o)[j]?=some e→(L o).length≤j→e.i=i∧e.n=n∧st.2[e.m]?=some (.op o j)
theorem sends_log {Fl:Prop}{sv pt:Nat}{ss:List SrvQ}{N L:Nat→List En}(hsv:1≤sv)(hl:ss.length=sv)(hup:¬Fl→∀o,o<sv→upAt ss o)(hL:LgI Fl sv pt N L)(hS:SrvsL ss L)(ex:List (Nat×Nat))(hex:∀o id,(o,id)∈ex→id<(L o).length)(n:Nat)(k:Int)(val:ByteArray)(hi:i<4)(hN:∀i,(N i).length≤160)(ks:List ByteArray)(hk:ks.length≤4):∃L',SendTo Fl sv pt i n k val N L ks (sendsK sv pt k val ex ss ks) L':=by
 have h:=sendsK_ind sv pt k val ex ss (fun ks st=>ks.length≤4→SameIn ss st.1∧∃L',SendTo Fl sv pt i n k val N L ks st L') (fun _=>⟨SameIn.refl _,L,⟨by
  have e:updF N i (N i++partsK i n k val [])=N:=by
   funext j;unfold updF partsK;by_cases hj:j=i
   ·rw[if_pos hj,hj];simp
   ·rw[if_neg hj]
  rw[e];exact hL,hS,Ext.refl _,rfl,fun m p hp=>(by simp at hp),fun o j e he hj=>by have:=(List.getElem?_eq_some_iff.1 he).1;omega⟩⟩) (fun ks key st hP hk=>by
  obtain⟨hin,L1,H⟩:=hP (by rw[List.length_append]at hk;omega);have ho:ownerN sv pt key<st.1.length:=by rw[hin.1,hl];exact ownerN_lt sv pt key hsv
  have hs:=List.getElem?_eq_getElem ho;generalize st.1[ownerN sv pt key]=s at hs;have hlen:∀o,(L1 o).length≤800:=H.lg.short (fun j=>by
   unfold updF;split
   ·rw[List.length_append];have:=hN i;rw[List.length_append]at hk;unfold partsK;rw[List.length_mapIdx];omega
   ·have:=hN j;omega)
  have eN:updF (updF N i (N i++partsK i n k val ks)) i (updF N i (N i++partsK i n k val ks) i++[⟨i,n,ks.length,k,key,val⟩])=updF N i (N i++partsK i n k val (ks++[key])):=by
   funext j;rw[partsK_snoc,updF_same];unfold updF;split
   ·rw[List.append_assoc]
   ·rfl
  have hps:∀(p':PS) (m:Nat) (p:PS),(st.2++[p'])[m]?=some p→(m<ks.length∧st.2[m]?=some p)∨(m=ks.length∧p=p'):=fun p' m p hp=>by
   have h1:=H.len;by_cases hm:m<st.2.length
   ·rw[List.getElem?_append_left hm]at hp;exact .inl ⟨by omega,hp⟩
   ·rw[List.getElem?_append_right (by omega)]at hp;cases hj:m-st.2.length with
    |zero=>rw[hj]at hp;simp at hp;exact .inr ⟨by omega,hp.symm⟩
    |succ j=>rw[hj]at hp;simp at hp
  unfold sendK;rw[hs];simp only
  by_cases hu:s.up=true
  ·rw[if_pos hu];obtain⟨s1,s2⟩:=H.sr _ s hs;have hfr:freeJ s.next (idsAt (ownerN sv pt key) (ex++opPs st.2))=0:=freeJ_zero (fun x hx=>by
    rcases List.mem_append.1 (mem_idsAt.1 hx)with e|e
    ·have h1:=hex _ _ e;have h2:=H.ext.len (ownerN sv pt key);omega
    ·obtain⟨m,hm⟩:=List.mem_iff_getElem?.1 (mem_opPs.1 e);obtain⟨key',_,h2|⟨id,h2,_,h3⟩⟩:=H.ps m _ hm
     ·cases h2.1
     ·have e1:ownerN sv pt key=ownerN sv pt key'∧x=id:=by injection h2 with h2;injection h2 with h2;injection h2 with h2;injection h2 with a b;exact⟨a,b⟩
      have h4:=(List.getElem?_eq_some_iff.1 h3).1;rw[←e1.1]at h4;rw[e1.2];omega) (by have:=hlen (ownerN sv pt key);omega)
   have hnx:=hlen (ownerN sv pt key);rw[hfr,Nat.add_zero,s2,Nat.mod_eq_of_lt (by omega),Nat.mod_eq_of_lt (by omega)];refine⟨hin.trans ⟨by simp,fun j s' hj=>?_⟩,updF L1 (ownerN sv pt key) (L1 (ownerN sv pt key)++[⟨i,n,ks.length,k,key,val⟩]),?_,?_,?_,by rw[List.length_append,List.length_append,H.len];rfl,fun m p hp=>?_,fun o j e he hj=>?_⟩
   ·rcases get_set hj with⟨e1,e2⟩|⟨e1,e2⟩
    ·rw[e1,e2];exact⟨s,hs,rfl,rfl⟩
    ·exact⟨s',e2,rfl,rfl⟩
   ·have:=H.lg.sent ⟨i,n,ks.length,k,key,val⟩ hi;simp only at this;rw[eN]at this;exact this
   ·intro o u hu;rcases get_set hu with⟨e1,e2⟩|⟨e1,e2⟩
    ·rw[e1,e2,updF_same,frsE_snoc,List.flatMap_append];refine⟨?_,by rw[List.length_append];rfl⟩;show s.sent++_=_;rw[s1];simp[Fr.by_]
    ·rw[updF_ne _ _ e1];exact H.sr o u e2
   ·refine H.ext.trans (fun o=>?_);by_cases e:o=ownerN sv pt key
    ·rw[e,updF_same];exact⟨_,rfl⟩
    ·rw[updF_ne _ _ e];exact⟨[],by simp⟩
   ·rcases hps _ m p hp with⟨e1,e2⟩|⟨e1,e2⟩
    ·obtain⟨key',h1,h2⟩:=H.ps m p e2;refine⟨key',by rw[List.getElem?_append_left e1];exact h1,?_⟩;rcases h2 with h2|⟨id,h2,h3,h4⟩
     ·exact .inl h2
     ·refine .inr ⟨id,h2,h3,?_⟩;by_cases e:ownerN sv pt key'=ownerN sv pt key
      ·rw[e,updF_same,←e,List.getElem?_append_left (List.getElem?_eq_some_iff.1 h4).1];exact h4
      ·rw[updF_ne _ _ e];exact h4
    ·refine⟨key,by rw[e1];simp,.inr ⟨_,e2,H.ext.len _,?_⟩⟩;rw[updF_same,e1];simp
   ·by_cases eo:o=ownerN sv pt key
    ·subst eo;rw[updF_same]at he;by_cases hjl:j<(L1 (ownerN sv pt key)).length
     ·rw[List.getElem?_append_left hjl]at he;obtain⟨h1,h2,h3⟩:=H.new _ j e he hj;exact⟨h1,h2,by rw[List.getElem?_append_left (List.getElem?_eq_some_iff.1 h3).1];exact h3⟩
     ·rw[List.getElem?_append_right (by omega)]at he;cases hz:j-(L1 (ownerN sv pt key)).length with
      |zero=>
       rw[hz]at he;simp at he;subst he;refine⟨rfl,rfl,?_⟩;have:j=(L1 (ownerN sv pt key)).length:=by omega
       rw[this];simp[←H.len]
      |succ z=>rw[hz]at he;simp at he
    ·rw[updF_ne _ _ eo]at he;obtain⟨h1,h2,h3⟩:=H.new _ j e he hj;exact⟨h1,h2,by rw[List.getElem?_append_left (List.getElem?_eq_some_iff.1 h3).1];exact h3⟩
  ·rw[if_neg hu];have hF:Fl:=Classical.byContradiction fun hF=>by
    obtain⟨v,v1,v2⟩:=(upAt_same hin).1 (hup hF _ (ownerN_lt sv pt key hsv));rw[hs]at v1;cases v1;exact hu v2
   refine⟨hin,L1,?_,H.sr,H.ext,by rw[List.length_append,List.length_append,H.len];rfl,fun m p hp=>?_,fun o j e he hj=>?_⟩
   ·have:=H.lg.lost ⟨i,n,ks.length,k,key,val⟩ hF;simp only at this;rw[eN]at this;exact this
   ·rcases hps _ m p hp with⟨e1,e2⟩|⟨e1,e2⟩
    ·obtain⟨key',h1,h2⟩:=H.ps m p e2;exact⟨key',by rw[List.getElem?_append_left e1];exact h1,h2⟩
    ·exact⟨key,by rw[e1];simp,.inl ⟨e2,hF⟩⟩
   ·obtain⟨h1,h2,h3⟩:=H.new _ j e he hj;exact⟨h1,h2,by rw[List.getElem?_append_left (List.getElem?_eq_some_iff.1 h3).1];exact h3⟩) ks hk
 exact h.2
variable {L:Nat→List En}{Cl:Nat→Nat→Prop}{V:Nat→Nat→Nat→ByteArray→Prop}{i n:Nat}{p:PS}
def PtQ (L:Nat→List En)(Cl:Nat→Nat→Prop)(V:Nat→Nat→Nat→ByteArray→Prop)(Fl:Prop)(i n m:Nat):PS→Prop
 |⟨.inl none⟩=>False
 |⟨.inl (some (o,id))⟩=>(∃e,(L o)[id]?=some e∧e.i=i∧e.n=n∧e.m=m)∧¬Cl o id
 |⟨.inr (some (st,v))⟩=>V n m st v
 |⟨.inr none⟩=>Fl
theorem PtQ.ext {L':Nat→List En}{Fl:Prop}{m:Nat}(h:PtQ L Cl V Fl i n m p)(k:Ext L L'):PtQ L' Cl V Fl i n m p:=by
 cases p using PS.el with
 |op o id=>
  obtain⟨⟨e,h1,h2⟩,h3⟩:=h;exact⟨⟨e,k.get h1,h2⟩,h3⟩
 |_=>exact h
def CmPt (d:Int)(cs:List Cmd)(Q:Nat→Nat→PS→Prop)(qs:List QS)(a:Nat):Prop:=∀(k:Nat) (x:QS),qs[k]?=some x→∃c,cs[a+k]?=some c∧x.c=cmdN d (a+k) c∧x.ps.length=c.keys.length∧∀(m:Nat) (p:PS),x.ps[m]?=some p→Q (a+k) m p
structure CL (d:Int)(cs:List Cmd)(rest:List UInt8)(Q:Nat→Nat→PS→Prop)(P:List UInt8→Nat→Prop)(s:CliQ)(a:Nat):Prop where
 di:s.d=d
 ps0:s.st.pass=false
 cl0:s.st.closed=false
 cm:CmPt d cs Q s.qs a
 tx:s.st.held++rest=asksFrom d (a+s.qs.length) (cs.drop (a+s.qs.length))
 le:a+s.qs.length≤cs.length
 td:P s.told a
def TellV (d:Int)(cs:List Cmd)(V:Nat→Nat→Nat→ByteArray→Prop)(Fl:Prop)(P:List UInt8→Nat→Prop):Prop:=∀(told:List UInt8) (a:Nat) (c:Cmd) (ps:List PS),cs[a]?=some c→ps.length=c.keys.length→(∀(m:Nat) (p:PS),ps[m]?=some p→(∃st v,p= .an st v∧V a m st v)∨(p= .fl∧Fl))→P told a→P (told++(toldB d ⟨cmdN d a c,ps⟩).data.toList) (a+1)
theorem no_open {x:QS}(h:x.n=0)(hp:p∈x.ps):p≠ .un∧∀o id,p≠ .op o id:=by
 unfold QS.n at h;rw[List.countP_eq_zero]at h;have:=h p hp;cases p using PS.el<;>simp[PS.opn]at this⊢
theorem tellL_inv {d:Int}{cs:List Cmd}{Fl:Prop}{P:List UInt8→Nat→Prop}(hP:TellV d cs V Fl P):∀(qs:List QS) (told:List UInt8) (a:Nat),CmPt d cs (PtQ L Cl V Fl i) qs a→P told a→∃r,r≤qs.length∧(tellQ d qs told).1=qs.drop r∧P (tellQ d qs told).2 (a+r)∧HeadO (qs.drop r)∧∀k x,k<r→qs[k]?=some x→x.n=0:=by
 intro qs;induction qs with
 |nil=>intro told a h1 h2;exact⟨0,Nat.le_refl _,rfl,h2,fun x l e=>(by cases e),fun k x h=>(by omega)⟩
 |cons x qs ih=>
  intro told a h1 h2;unfold tellQ;split
  ·rename_i hn;obtain⟨c,e1,e2,e3,e4⟩:=h1 0 x rfl;rw[Nat.add_zero]at e1 e2 e4;have hx:x=⟨cmdN d a c,x.ps⟩:=by rw[←e2]
   have h3:=hP told a c x.ps e1 e3 (fun m p hp=>by
    obtain⟨n1,n2⟩:=no_open hn (List.mem_of_getElem? hp);have:=e4 m p hp;cases p using PS.el with
    |un=>exact absurd rfl n1
    |op o id=>exact absurd rfl (n2 o id)
    |an st v=>exact .inl ⟨st,v,rfl,this⟩
    |fl=>exact .inr ⟨rfl,this⟩) h2
   rw[←hx]at h3;obtain⟨r,b1,b2,b3,b4,b5⟩:=ih (told++(toldB d x).data.toList) (a+1) (fun k y hy=>by
    obtain⟨c,f1,f2⟩:=h1 (k+1) y (by simpa using hy);rw[show a+(k+1)=a+1+k by omega]at f1 f2;exact⟨c,f1,f2⟩) h3
   refine⟨r+1,by rw[List.length_cons];omega,b2,by rw[show a+(r+1)=a+1+r by omega];exact b3,b4,fun k y hk hy=>?_⟩;cases k with
   |zero=>simp at hy;rw[←hy];exact hn
   |succ k=>exact b5 k y (by omega) (by simpa using hy)
  ·rename_i hn;refine⟨0,Nat.zero_le _,rfl,h2,fun y l e=>?_,fun k x h=>(by omega)⟩;cases e;exact hn
def NewE (i n:Nat)(L L':Nat→List En):Prop:=∀(o j:Nat) (e:En),(L' o)[j]?=some e→(L o).length≤j→e.i=i∧n≤e.n
theorem NewE.refl (i n:Nat)(L:Nat→List En):NewE i n L L:=fun o j e he hj=>by
 have:=(List.getElem?_eq_some_iff.1 he).1
 omega
theorem NewE.trans {n':Nat}{A B C:Nat→List En}(h:NewE i n A B)(k:NewE i n' B C)(hn:n≤n')(hx:Ext B C):NewE i n A C:=fun o j e he hj=>by
 by_cases hb:(B o).length≤j
 ·obtain⟨h1,h2⟩:=k o j e he hb;exact⟨h1,by omega⟩
 ·refine h o j e ?_ hj;obtain⟨t,ht⟩:=hx o;rw[ht,List.getElem?_append_left (by omega)]at he;exact he
structure SvL (Fl:Prop)(sv pt i:Nat)(d:Int)(cs:List Cmd)(rest:List UInt8)(V:Nat→Nat→Nat→ByteArray→Prop)(Cl:Nat→Nat→Prop)(P:List UInt8→Nat→Prop)(N:Nat→List En)(ex:List (Nat×Nat))(s:CliQ)(ss:List SrvQ)(L:Nat→List En)(a:Nat):Prop where
 cl:CL d cs rest (PtQ L Cl V Fl i) P s a
 lg:LgI Fl sv pt (updF N i (partsN i cs (a+s.qs.length))) L
 sr:SrvsL ss L
 len:ss.length=sv
 up:¬Fl→∀o,o<sv→upAt ss o
 opn:¬Fl→∀(o id:Nat) (e:En),(L o)[id]?=some e→e.i=i→¬Cl o id→a≤e.n∧∃x,s.qs[e.n-a]?=some x∧x.ps[e.m]?=some (.op o id)
 clb:∀o id,Cl o id→id<(L o).length
 ex:∀o id,(o,id)∈ex→id<(L o).length
section
variable {Fl:Prop}{sv pt win i:Nat}{d:Int}{cs:List Cmd}{rest:List UInt8}{V:Nat→Nat→Nat→ByteArray→Prop}{Cl:Nat→Nat→Prop}{P:List UInt8→Nat→Prop}{N:Nat→List En}{ex:List (Nat×Nat)}{s:CliQ}{ss:List SrvQ}{L:Nat→List En}{a:Nat}
theorem SvL.tell (h:SvL Fl sv pt i d cs rest V Cl P N ex s ss L a)(hP:TellV d cs V Fl P):∃a',SvL Fl sv pt i d cs rest V Cl P N ex (tellQs s) ss L a'∧a≤a'∧a'+(tellQs s).qs.length=a+s.qs.length∧HeadO (tellQs s).qs:=by
 obtain⟨r,b1,b2,b3,b4,b5⟩:=tellL_inv hP s.qs s.told a h.cl.cm h.cl.td;have hd:=h.cl.di;have e1:(tellQs s).qs=s.qs.drop r:=by show(tellQ s.d s.qs s.told).1=_;rw[hd];exact b2
 have e2:(tellQs s).told=(tellQ d s.qs s.told).2:=by show(tellQ s.d s.qs s.told).2=_;rw[hd]
 have hlen:a+r+(s.qs.drop r).length=a+s.qs.length:=by rw[List.length_drop];omega
 have hcm:CmPt d cs (PtQ L Cl V Fl i) (s.qs.drop r) (a+r):=fun k x hx=>by
  rw[List.getElem?_drop]at hx;rw[Nat.add_assoc];exact h.cl.cm (r+k) x hx
 refine⟨a+r,⟨⟨hd,h.cl.ps0,h.cl.cl0,by rw[e1];exact hcm,?_,?_,by rw[e2];exact b3⟩,?_,h.sr,h.len,h.up,fun hF o id e he hi hc=>?_,h.clb,h.ex⟩,by omega,by rw[e1];exact hlen,by rw[e1];exact b4⟩
 ·rw[e1,hlen];exact h.cl.tx
 ·rw[e1,hlen];exact h.cl.le
 ·rw[e1,hlen];exact h.lg
 ·obtain⟨g1,x,g2,g3⟩:=h.opn hF o id e he hi hc;have hr:r≤e.n-a:=Classical.byContradiction fun hn=>(no_open (b5 _ x (by omega) g2) (List.mem_of_getElem? g3)).2 o id rfl
  refine⟨by omega,x,?_,g3⟩;rw[e1,List.getElem?_drop,show r+(e.n-(a+r))=e.n-a by omega];exact g2
theorem CL.toC {Q:Nat→Nat→PS→Prop}(h:CL d cs rest Q P s a):CInv d cs rest (fun _ _=>True) P s a:=
 ⟨h.di,h.ps0,h.cl0,fun k x hx=>by obtain⟨c,e1,e2,e3,_⟩:=h.cm k x hx;exact⟨c,e1,e2,e3,fun _ _=>trivial⟩,h.tx,h.le,h.td⟩
theorem SvL.got (h:SvL Fl sv pt i d cs rest V Cl P N ex s ss L a)(hd:d=1∨d=2∨d=3)(hg:∀x∈cs,GoodC d x)(hl:cs.length≤40)(hsv:1≤sv)(hi:i<4)(hN:∀i,(N i).length≤160){x:StepR}(hr:readR s.d s.st.held=some x):∃L',SvL Fl sv pt i d cs rest V Cl P N ex (gotQ sv pt ex s ss x).1 (gotQ sv pt ex s ss x).2 L' a∧Ext L L'∧NewE i (a+s.qs.length) L L':=by
 obtain⟨c,e1,e2,e3,e4⟩:=h.cl.toC.read hd hg (by omega) hr;have A:=askable_of (hg c (List.mem_of_getElem? e1)).cmd;have hlt:=(List.getElem?_eq_some_iff.1 e1).1;have hk4:∀c∈cs,c.keys.length≤4:=fun c hc=>(askable_of (hg c hc).cmd).len4
 have hNN:∀j,(updF N i (partsN i cs (a+s.qs.length)) j).length≤160:=fun j=>by
  unfold updF;split
  ·have:=partsN_len (i:=i) hk4 (a+s.qs.length);omega
  ·exact hN j
 obtain⟨L',H⟩:=sends_log hsv h.len h.up h.lg h.sr (ex++opQs s.qs) (fun o id hm=>by
  rcases List.mem_append.1 hm with e|e
  ·exact h.ex o id e
  ·obtain⟨y,hy,hp⟩:=mem_opQs.1 e;obtain⟨k,hk⟩:=List.mem_iff_getElem?.1 hy;obtain⟨m,hm⟩:=List.mem_iff_getElem?.1 hp;obtain⟨_,_,_,_,e4⟩:=h.cl.cm k y hk;obtain⟨⟨en,h1,_⟩,_⟩:=e4 m _ hm;exact(List.getElem?_eq_some_iff.1 h1).1) (a+s.qs.length) c.kind c.val hi hNN c.keys A.len4
 have ec:(gotQ sv pt ex s ss x).1.qs=s.qs++[⟨x.c,(sendsK sv pt c.kind c.val (ex++opQs s.qs) ss c.keys).2⟩]:=by
  unfold gotQ;rw[e2];rfl
 have es:(gotQ sv pt ex s ss x).2=(sendsK sv pt c.kind c.val (ex++opQs s.qs) ss c.keys).1:=by
  unfold gotQ;rw[e2];rfl
 have hlen:(gotQ sv pt ex s ss x).1.qs.length=s.qs.length+1:=by rw[ec];simp
 have hin:SameIn ss (gotQ sv pt ex s ss x).2:=by rw[es];exact sendsK_in _ _ _ _ _ _ _
 generalize sendsK sv pt c.kind c.val (ex++opQs s.qs) ss c.keys=ST at*;refine⟨L',⟨⟨h.cl.di,by show(afterS s.st x).pass=false;rw[e3],by show(afterS s.st x).closed=false;rw[e3],fun k y hy=>?_,?_,by rw[hlen];omega,h.cl.td⟩,?_,by rw[es];exact H.sr,by rw[hin.1];exact h.len,fun hF o ho=>(upAt_same hin).1 (h.up hF o ho),fun hF o id e he hi hc=>?_,fun o id hc=>Nat.lt_of_lt_of_le (h.clb o id hc) (H.ext.len o),fun o id hm=>Nat.lt_of_lt_of_le (h.ex o id hm) (H.ext.len o)⟩,H.ext,fun o j e he hj=>?_⟩
 ·rw[ec]at hy;by_cases hk:k<s.qs.length
  ·rw[List.getElem?_append_left hk]at hy;obtain⟨c,f1,f2,f3,f4⟩:=h.cl.cm k y hy;exact⟨c,f1,f2,f3,fun m p hp=>(f4 m p hp).ext H.ext⟩
  ·rw[List.getElem?_append_right (by omega)]at hy;cases hj:k-s.qs.length with
   |succ j=>rw[hj]at hy;simp at hy
   |zero=>
    rw[hj]at hy;simp at hy;have hk2:k=s.qs.length:=by omega
    subst hk2;refine⟨c,e1,by rw[←hy];exact e2,by rw[←hy];exact H.len,fun m p hp=>?_⟩;rw[←hy]at hp;obtain⟨key,h1,h2|⟨id,h2,h3,h4⟩⟩:=H.ps m p hp
    ·rw[h2.1];exact h2.2
    ·rw[h2];exact⟨⟨_,h4,rfl,rfl,rfl⟩,fun hc=>by have:=h.clb _ _ hc;omega⟩
 ·rw[hlen];show(afterS s.st x).held++rest=_;rw[e3];exact e4
 ·rw[hlen];have:=H.lg;rw[updF_same,←partsN_succ e1]at this;have e:updF (updF N i (partsN i cs (a+s.qs.length))) i (partsN i cs (a+s.qs.length+1))=updF N i (partsN i cs (a+(s.qs.length+1))):=by
   funext j;unfold updF;split<;>rfl
  rw[e]at this;exact this
 ·rw[ec];by_cases hj:(L o).length≤id
  ·obtain⟨h1,h2,h3⟩:=H.new o id e he hj;refine⟨by omega,⟨x.c,ST.2⟩,?_,h3⟩;rw[h2,show a+s.qs.length-a=s.qs.length by omega];simp
  ·have he':(L o)[id]?=some e:=by
    obtain⟨t,ht⟩:=H.ext o;rw[ht,List.getElem?_append_left (by omega)]at he;exact he
   obtain⟨g1,y,g2,g3⟩:=h.opn hF o id e he' hi hc;exact⟨g1,y,by rw[List.getElem?_append_left (List.getElem?_eq_some_iff.1 g2).1];exact g2,g3⟩
 ·obtain⟨h1,h2,_⟩:=H.new o j e he hj;exact⟨h1,by omega⟩
theorem SvL.serv (hd:d=1∨d=2∨d=3)(hg:∀x∈cs,GoodC d x)(hl:cs.length≤40)(hP:TellV d cs V Fl P)(hsv:1≤sv)(hi:i<4)(hN:∀i,(N i).length≤160):∀(f:Nat) (s:CliQ) (ss:List SrvQ) (L:Nat→List En) (a:Nat),SvL Fl sv pt i d cs rest V Cl P N ex s ss L a→HeadO s.qs→s.st.held.length≤f→∃L' a',SvL Fl sv pt i d cs rest V Cl P N ex (servF sv pt win ex f s ss).1 (servF sv pt win ex f s ss).2 L' a'∧Ext L L'∧NewE i (a+s.qs.length) L L'∧a≤a'∧a+s.qs.length≤a'+(servF sv pt win ex f s ss).1.qs.length∧NormC win (servF sv pt win ex f s ss).1:=by
 intro f;induction f with
 |zero=>
  intro s ss L a h1 h3 hf;refine⟨L,a,h1,Ext.refl _,NewE.refl _ _ _,Nat.le_refl _,Nat.le_refl _,h3,fun _=>?_⟩;have h0:s.st.held=[]:=List.length_eq_zero_iff.1 (by omega);show readR s.d s.st.held=none;rw[h0,readR_nil]
 |succ f ih=>
  intro s ss L a h1 h3 hf;unfold servF;split
  ·cases hr:readR s.d s.st.held with
   |none=>exact⟨L,a,h1,Ext.refl _,NewE.refl _ _ _,Nat.le_refl _,Nat.le_refl _,h3,fun _=>hr⟩
   |some x=>
    simp only
    have hlen:=afterS_len hr;obtain⟨L1,g1,g2,g3⟩:=h1.got hd hg hl hsv hi hN hr;obtain⟨a1,t1,t2,t3,t4⟩:=g1.tell hP;have hl1:(gotQ sv pt ex s ss x).1.qs.length=s.qs.length+1:=by simp[gotQ]
    obtain⟨L2,a2,k1,k2,k3,k4,k5,k6⟩:=ih _ _ L1 a1 t1 t4 (by show(afterS s.st x).held.length≤f;omega);exact⟨L2,a2,k1,g2.trans k2,g3.trans k3 (by omega) k2,by omega,by omega,k6⟩
  ·rename_i hw;exact⟨L,a,h1,Ext.refl _,NewE.refl _ _ _,Nat.le_refl _,Nat.le_refl _,h3,fun h=>absurd h hw⟩
end
variable {cs:List CliQ}{i o id:Nat}{u:SrvQ}
structure PlyL where
 d:Nat→Int
 cs:Nat→List Cmd
 V:Nat→Nat→Nat→Nat→ByteArray→Prop
 P:Nat→List UInt8→Nat→Prop
 Fl:Prop
structure PlyLOk (q:PlyL):Prop where
 hd:∀i,q.d i=1∨q.d i=2∨q.d i=3
 hg:∀i,∀x∈q.cs i,GoodC (q.d i) x
 hl:∀i,(q.cs i).length≤40
 hP:∀i,TellV (q.d i) (q.cs i) (q.V i) q.Fl (q.P i)
def rdN (A:Nat→Nat)(cs:List CliQ)(i:Nat):Nat:=match cs[i]?with
 |some s=>A i+s.qs.length
 |none=>0
theorem rdN_some {A:Nat→Nat}{s:CliQ}(h:cs[i]?=some s):rdN A cs i=A i+s.qs.length:=by unfold rdN;rw[h]
structure JI (q:PlyL)(sv pt win:Nat)(rest:Nat→List UInt8)(F:Nat→Prop)(Cl:Nat→Nat→Prop)(st:List CliQ×List SrvQ)(L:Nat→List En)(A:Nat→Nat):Prop where
 cli:∀(i:Nat) (s:CliQ),st.1[i]?=some s→CL (q.d i) (q.cs i) (rest i) (PtQ L Cl (q.V i) q.Fl i) (q.P i) s (A i)∧(F i→NormC win s)
 lg:LgI q.Fl sv pt (fun i=>partsN i (q.cs i) (rdN A st.1 i)) L
 sr:SrvsL st.2 L
 len:st.2.length=sv
 up:¬q.Fl→∀o,o<sv→upAt st.2 o
 opn:¬q.Fl→∀(o id:Nat) (e:En),(L o)[id]?=some e→¬Cl o id→∃s x,st.1[e.i]?=some s∧A e.i≤e.n∧s.qs[e.n-A e.i]?=some x∧x.ps[e.m]?=some (.op o id)
 clb:∀o id,Cl o id→id<(L o).length
 c4:st.1.length≤4
 s1:1≤sv
structure Adv (st:List CliQ×List SrvQ)(L:Nat→List En)(A:Nat→Nat)(st':List CliQ×List SrvQ)(L':Nat→List En)(A':Nat→Nat):Prop where
 ext:Ext L L'
 al:∀i,A i≤A' i
 rl:∀i,rdN A st.1 i≤rdN A' st'.1 i
 new:∀(o j:Nat) (e:En),(L' o)[j]?=some e→(L o).length≤j→rdN A st.1 e.i≤e.n
theorem Adv.refl (st:List CliQ×List SrvQ)(L:Nat→List En)(A:Nat→Nat):Adv st L A st L A:=⟨Ext.refl _,fun _=>Nat.le_refl _,fun _=>Nat.le_refl _,fun o j e he hj=>by have:=(List.getElem?_eq_some_iff.1 he).1;omega⟩
theorem Adv.trans {s1 s2 s3:List CliQ×List SrvQ}{L1 L2 L3:Nat→List En}{A1 A2 A3:Nat→Nat}(h:Adv s1 L1 A1 s2 L2 A2)(k:Adv s2 L2 A2 s3 L3 A3):Adv s1 L1 A1 s3 L3 A3:=
 ⟨h.ext.trans k.ext,fun i=>Nat.le_trans (h.al i) (k.al i),fun i=>Nat.le_trans (h.rl i) (k.rl i),fun o j e he hj=>by
  by_cases hb:(L2 o).length≤j
  ·exact Nat.le_trans (h.rl e.i) (k.new o j e he hb)
  ·refine h.new o j e ?_ hj;obtain⟨t,ht⟩:=k.ext o;rw[ht,List.getElem?_append_left (by omega)]at he;exact he⟩
section
variable {q:PlyL}{sv pt win:Nat}{rest:Nat→List UInt8}{F:Nat→Prop}{Cl:Nat→Nat→Prop}{st:List CliQ×List SrvQ}{L:Nat→List En}{A:Nat→Nat}
theorem JI.opId (h:JI q sv pt win rest F Cl st L A)(hs:∀s∈cs,s∈st.1)(hm:(o,id)∈opJ cs):id<(L o).length:=by
 obtain⟨s,h1,x,h2,h3⟩:=mem_opJ.1 hm;obtain⟨i,hi⟩:=List.mem_iff_getElem?.1 (hs s h1);obtain⟨k,hk⟩:=List.mem_iff_getElem?.1 h2;obtain⟨m,hm⟩:=List.mem_iff_getElem?.1 h3;obtain⟨_,_,_,_,e4⟩:=(h.cli i s hi).1.cm k x hk;obtain⟨⟨en,g1,_⟩,_⟩:=e4 m _ hm;exact(List.getElem?_eq_some_iff.1 g1).1
theorem JI.run (hq:PlyLOk q)(h:JI q sv pt win rest F Cl st L A)(i:Nat):∃L' A',JI q sv pt win rest (fun j=>F j∨j=i) Cl (runJ sv pt win i st) L' A'∧Adv st L A (runJ sv pt win i st) L' A':=by
 have hin:=runJ_in sv pt win i st;unfold runJ at hin⊢;cases hs:st.1[i]?with
 |none=>
  simp only[hs]at hin⊢;refine⟨L,A,⟨fun j s hj=>?_,h.lg,h.sr,h.len,h.up,h.opn,h.clb,h.c4,h.s1⟩,Adv.refl _ _ _⟩;obtain⟨h1,h3⟩:=h.cli j s hj;refine⟨h1,fun hf=>?_⟩;rcases hf with e|e
  ·exact h3 e
  ·rw[e,hs]at hj;cases hj
 |some s=>
  simp only[hs]at hin⊢;have hil:=(List.getElem?_eq_some_iff.1 hs).1;have hc4:=h.c4;have hk4:∀j,∀c∈q.cs j,c.keys.length≤4:=fun j c hc=>(askable_of (hq.hg j c hc).cmd).len4
  have hN:∀j,(partsN j (q.cs j) (rdN A st.1 j)).length≤160:=fun j=>by
   have h1:=partsN_len (i:=j) (hk4 j) (rdN A st.1 j);have h2:rdN A st.1 j≤40:=by
    unfold rdN;split
    ·rename_i s' hs';exact Nat.le_trans (h.cli j s' hs').1.le (hq.hl j)
    ·omega
   omega
  have hS:SvL q.Fl sv pt i (q.d i) (q.cs i) (rest i) (q.V i) Cl (q.P i) (fun i=>partsN i (q.cs i) (rdN A st.1 i)) (exAt st.1 i) s st.2 L (A i):=by
   refine⟨(h.cli i s hs).1,?_,h.sr,h.len,h.up,fun hF o id e he hi hc=>?_,h.clb,fun o id hm=>?_⟩
   ·have e:updF (fun i=>partsN i (q.cs i) (rdN A st.1 i)) i (partsN i (q.cs i) (A i+s.qs.length))=fun i=>partsN i (q.cs i) (rdN A st.1 i):=by
     funext j;unfold updF;split
     ·rename_i e;rw[e,rdN_some hs]
     ·rfl
    rw[e];exact h.lg
   ·obtain⟨s',x,g1,g2,g3,g4⟩:=h.opn hF o id e he hc;rw[hi]at g1 g2 g3;rw[hs]at g1;cases g1;exact⟨g2,x,g3,g4⟩
   ·rcases List.mem_append.1 hm with e|e
    ·exact h.opId (fun s hs=>List.mem_of_mem_take hs) e
    ·exact h.opId (fun s hs=>List.mem_of_mem_drop hs) e
  obtain⟨a1,t1,t2,t3,t4⟩:=hS.tell (hq.hP i);obtain⟨L',a',k1,k2,k3,k4,k5,k6⟩:=SvL.serv (win:=win) (hq.hd i) (hq.hg i) (hq.hl i) (hq.hP i) h.s1 (by omega) hN _ (tellQs s) st.2 L a1 t1 t4 (Nat.le_refl _);have hqe:servF sv pt win (exAt st.1 i) (tellQs s).st.held.length (tellQs s) st.2=servQ sv pt win (exAt st.1 i) (tellQs s) st.2:=rfl;rw[hqe]at k1 k5 k6;generalize servQ sv pt win (exAt st.1 i) (tellQs s) st.2=Z at*;have hset:(st.1.set i Z.1)[i]?=some Z.1:=List.getElem?_set_self hil;have hoth:∀j,j≠i→(st.1.set i Z.1)[j]?=st.1[j]?:=fun j hj=>List.getElem?_set_ne (fun e=>hj e.symm)
  have hrd:∀j,j≠i→rdN (updF A i a') (st.1.set i Z.1) j=rdN A st.1 j:=fun j hj=>by unfold rdN;rw[hoth j hj,updF_ne _ _ hj]
  have hri:rdN (updF A i a') (st.1.set i Z.1) i=a'+Z.1.qs.length:=by rw[rdN_some hset,updF_same]
  refine⟨L',updF A i a',⟨fun j s' hj=>?_,?_,k1.sr,k1.len,k1.up,fun hF o id e he hc=>?_,k1.clb,by rw[List.length_set];exact hc4,h.s1⟩,⟨k2,fun j=>?_,fun j=>?_,fun o j e he hj=>?_⟩⟩
  ·by_cases e:j=i
   ·subst e;have e2:s'=Z.1:=by rw[show(st.1.set j Z.1,Z.2).1=st.1.set j Z.1 from rfl,hset]at hj;cases hj;rfl
    rw[e2,updF_same];exact⟨k1.cl,fun _=>k6⟩
   ·have hj':st.1[j]?=some s':=by rw[←hoth j e];exact hj
    obtain⟨g1,g3⟩:=h.cli j s' hj';rw[updF_ne _ _ e];refine⟨⟨g1.di,g1.ps0,g1.cl0,fun k x hx=>?_,g1.tx,g1.le,g1.td⟩,fun hf=>g3 (by rcases hf with e1|e1;exact e1;exact absurd e1 e)⟩;obtain⟨c,f1,f2,f3,f4⟩:=g1.cm k x hx;exact⟨c,f1,f2,f3,fun m p hp=>(f4 m p hp).ext k2⟩
  ·have e:(fun j=>partsN j (q.cs j) (rdN (updF A i a') (st.1.set i Z.1) j))=updF (fun i=>partsN i (q.cs i) (rdN A st.1 i)) i (partsN i (q.cs i) (a'+Z.1.qs.length)):=by
    funext j;unfold updF;split
    ·rename_i e;rw[e];have:=hri;unfold updF at this;rw[this]
    ·rename_i e;have:=hrd j e;unfold updF at this;rw[this]
   show LgI q.Fl sv pt (fun j=>partsN j (q.cs j) (rdN (updF A i a') (st.1.set i Z.1) j)) L';rw[e];exact k1.lg
  ·by_cases ei:e.i=i
   ·obtain⟨g1,x,g2,g3⟩:=k1.opn hF o id e he ei hc;rw[ei,updF_same];exact⟨Z.1,x,hset,g1,g2,g3⟩
   ·have hjl:¬(L o).length≤id:=fun hj=>ei (k3 o id e he hj).1
    have he':(L o)[id]?=some e:=by
     obtain⟨t,ht⟩:=k2 o;rw[ht,List.getElem?_append_left (by omega)]at he;exact he
    obtain⟨s',x,g1,g2,g3,g4⟩:=h.opn hF o id e he' hc;rw[updF_ne _ _ ei];exact⟨s',x,(hoth _ ei).trans g1,g2,g3,g4⟩
  ·by_cases e:j=i
   ·rw[e,updF_same];omega
   ·rw[updF_ne _ _ e];exact Nat.le_refl _
  ·show _≤rdN (updF A i a') (st.1.set i Z.1) j;by_cases e:j=i
   ·rw[e,hri,rdN_some hs];omega
   ·rw[hrd j e];exact Nat.le_refl _
  ·obtain⟨h1,h2⟩:=k3 o j e he hj;rw[h1,rdN_some hs];omega
theorem JI.more {G:Nat→Prop}(h:JI q sv pt win rest F Cl st L A)(hg:∀i,i<st.1.length→G i→F i):JI q sv pt win rest G Cl st L A:=
 ⟨fun i s hs=>⟨(h.cli i s hs).1,fun hG=>(h.cli i s hs).2 (hg i (List.getElem?_eq_some_iff.1 hs).1 hG)⟩,h.lg,h.sr,h.len,h.up,h.opn,h.clb,h.c4,h.s1⟩
theorem JI.said (hq:PlyLOk q)(h:JI q sv pt win rest (fun _=>True) Cl st L A){piece r:List UInt8}(hr:rest i=piece++r):∃L' A',JI q sv pt win (fun j=>if j=i then r else rest j) (fun _=>True) Cl (saidJ sv pt win i piece st) L' A'∧Adv st L A (saidJ sv pt win i piece st) L' A':=by
 unfold saidJ;split
 ·rename_i hs;refine⟨L,A,⟨fun j s hj=>?_,h.lg,h.sr,h.len,h.up,h.opn,h.clb,h.c4,h.s1⟩,Adv.refl _ _ _⟩;have hne:j≠i:=fun e=>by rw[e,hs]at hj;cases hj
  rw[if_neg hne];exact h.cli j s hj
 ·rename_i s hs;have hil:=(List.getElem?_eq_some_iff.1 hs).1;have hset:(st.1.set i (tookQ s piece))[i]?=some (tookQ s piece):=List.getElem?_set_self hil;have hoth:∀j,j≠i→(st.1.set i (tookQ s piece))[j]?=st.1[j]?:=fun j hj=>List.getElem?_set_ne (fun e=>hj e.symm)
  have hrd:∀j,rdN A (st.1.set i (tookQ s piece)) j=rdN A st.1 j:=fun j=>by
   by_cases e:j=i
   ·rw[e,rdN_some hset,rdN_some hs];rfl
   ·unfold rdN;rw[hoth j e]
  have h0:JI q sv pt win (fun j=>if j=i then r else rest j) (fun j=>j≠i) Cl (st.1.set i (tookQ s piece),st.2) L A:=by
   refine⟨fun j s' hj=>?_,?_,h.sr,h.len,h.up,fun hF o id e he hc=>?_,h.clb,by rw[List.length_set];exact h.c4,h.s1⟩
   ·by_cases e:j=i
    ·subst e;have e2:s'=tookQ s piece:=by rw[show(st.1.set j (tookQ s piece),st.2).1=st.1.set j (tookQ s piece)from rfl,hset]at hj;cases hj;rfl
     subst e2;obtain⟨h1,_⟩:=h.cli j s hs;have ht:takeS s.st piece=⟨s.st.held++piece,false,false⟩:=by unfold takeS;rw[h1.cl0,h1.ps0];simp
     refine⟨⟨h1.di,by show(takeS s.st piece).pass=false;rw[ht],by show(takeS s.st piece).closed=false;rw[ht],h1.cm,?_,h1.le,h1.td⟩,fun e=>absurd rfl e⟩;show(takeS s.st piece).held++(if j=j then r else rest j)=_;rw[if_pos rfl,ht,List.append_assoc,←hr];exact h1.tx
    ·have hj':st.1[j]?=some s':=by rw[←hoth j e];exact hj
     rw[if_neg e];exact⟨(h.cli j s' hj').1,fun _=>(h.cli j s' hj').2 trivial⟩
   ·have e:(fun j=>partsN j (q.cs j) (rdN A (st.1.set i (tookQ s piece)) j))=fun j=>partsN j (q.cs j) (rdN A st.1 j):=by funext j;rw[hrd j]
    show LgI q.Fl sv pt (fun j=>partsN j (q.cs j) (rdN A (st.1.set i (tookQ s piece)) j)) L;rw[e];exact h.lg
   ·obtain⟨s',x,g1,g2,g3,g4⟩:=h.opn hF o id e he hc;by_cases ei:e.i=i
    ·rw[ei,hs]at g1;cases g1;exact⟨tookQ s piece,x,by rw[ei];exact hset,g2,g3,g4⟩
    ·exact⟨s',x,(hoth _ ei).trans g1,g2,g3,g4⟩
  obtain⟨L',A',k1,k2⟩:=h0.run hq i;refine⟨L',A',k1.more (fun j _ _=>by by_cases hj:j=i;exact .inr hj;exact .inl hj),k2.ext,k2.al,fun j=>?_,fun o j e he hj=>?_⟩
  ·have:=k2.rl j;rw[←hrd j];exact this
  ·have:=k2.new o j e he hj;rw[←hrd e.i];exact this
theorem JI.an (hq:PlyLOk q)(h:JI q sv pt win rest (fun _=>True) Cl st L A){k m stt:Nat}{v:ByteArray}{used:Nat}(hu:st.2[o]?=some u)(hf:findP o id st.1 0=some (i,k,m))(hv:q.V i (A i+k) m stt v)(hld:List UInt8):∃L' A',JI q sv pt win rest (fun _=>True) (fun o' id'=>Cl o' id'∨(o'=o∧id'=id)) (runJ sv pt win i (anJ st.1 i k m ⟨stt,id,v,used⟩,st.2.set o {u with held:=hld})) L' A'∧Adv st L A (runJ sv pt win i (anJ st.1 i k m ⟨stt,id,v,used⟩,st.2.set o {u with held:=hld})) L' A':=by
 obtain⟨j,s,x,e0,hs,hx,hxm⟩:=findP_some o id st.1 0 i k m hf;rw[Nat.zero_add]at e0;subst e0;have eA:anJ st.1 i k m ⟨stt,id,v,used⟩=st.1.set i {s with qs:=s.qs.set k ⟨x.c,x.ps.set m (.an stt v)⟩}:=by unfold anJ;rw[hs];simp only;unfold anC;rw[hx]
 rw[eA];generalize hs':({s with qs:=s.qs.set k ⟨x.c,x.ps.set m (.an stt v)⟩}:CliQ)=s';have hql:s'.qs=s.qs.set k ⟨x.c,x.ps.set m (.an stt v)⟩:=by rw[←hs']
 have hlen:s'.qs.length=s.qs.length:=by rw[hql];simp
 have hil:=(List.getElem?_eq_some_iff.1 hs).1;have hkl:=(List.getElem?_eq_some_iff.1 hx).1;have hml:=(List.getElem?_eq_some_iff.1 hxm).1;have hset:(st.1.set i s')[i]?=some s':=List.getElem?_set_self hil;have hoth:∀j,j≠i→(st.1.set i s')[j]?=st.1[j]?:=fun j hj=>List.getElem?_set_ne (fun e=>hj e.symm)
 have hrd:∀j,rdN A (st.1.set i s') j=rdN A st.1 j:=fun j=>by
  by_cases e:j=i
  ·rw[e,rdN_some hset,rdN_some hs,hlen]
  ·unfold rdN;rw[hoth j e]
 obtain⟨c0,c1,c2,c3,c4⟩:=(h.cli i s hs).1.cm k x hx;obtain⟨⟨en,n1,n2,n3,n4⟩,n5⟩:=c4 m _ hxm;have only:∀(i':Nat) (t:CliQ) (k':Nat) (y:QS) (m':Nat),st.1[i']?=some t→t.qs[k']?=some y→y.ps[m']?=some (.op o id)→i'=i∧k'=k∧m'=m:=fun i' t k' y m' g1 g2 g3=>by
  obtain⟨_,_,_,_,f4⟩:=(h.cli i' t g1).1.cm k' y g2;obtain⟨⟨en',f1,f2,f3,f5⟩,_⟩:=f4 m' _ g3;rw[n1]at f1;cases f1;have:i'=i:=by rw[←f2,n2]
  subst this;exact⟨rfl,by omega,by omega⟩
 have ptq:∀(i':Nat) (n' m':Nat) (p:PS),PtQ L Cl (q.V i') q.Fl i' n' m' p→(p= .op o id→False)→PtQ L (fun o' id'=>Cl o' id'∨(o'=o∧id'=id)) (q.V i') q.Fl i' n' m' p:=fun i' n' m' p hp hn=>by
  cases p using PS.el with
  |op a b=>
   refine⟨hp.1,fun hc=>?_⟩;rcases hc with e|⟨e1,e2⟩
   ·exact hp.2 e
   ·exact hn (by rw[e1,e2])
  |_=>exact hp
 have hup:∀b,upAt st.2 b→upAt (st.2.set o {u with held:=hld}) b:=fun b hb=>by
  obtain⟨v,v1,v2⟩:=hb;by_cases hbo:b=o
  ·subst hbo;rw[hu]at v1;cases v1;exact⟨_,List.getElem?_set_self (List.getElem?_eq_some_iff.1 hu).1,v2⟩
  ·exact⟨v,by rw[List.getElem?_set_ne (fun e=>hbo e.symm)];exact v1,v2⟩
 have h0:JI q sv pt win rest (fun j=>j≠i) (fun o' id'=>Cl o' id'∨(o'=o∧id'=id)) (st.1.set i s',st.2.set o {u with held:=hld}) L A:=by
  refine⟨fun j t hj=>?_,?_,fun o' u' hu'=>?_,by rw[List.length_set];exact h.len,fun hF b hb=>hup b (h.up hF b hb),fun hF o' id' e he hc=>?_,fun o' id' hc=>?_,by rw[List.length_set];exact h.c4,h.s1⟩
  ·by_cases e:j=i
   ·subst e;have e2:t=s':=by rw[show(st.1.set j s',st.2.set o {u with held:=hld}).1=st.1.set j s' from rfl,hset]at hj;cases hj;rfl
    subst e2;obtain⟨h1,_⟩:=h.cli j s hs;refine⟨⟨by rw[←hs'];exact h1.di,by rw[←hs'];exact h1.ps0,by rw[←hs'];exact h1.cl0,fun k' y hy=>?_,by rw[hlen,←hs'];exact h1.tx,by rw[hlen];exact h1.le,by rw[←hs'];exact h1.td⟩,fun e=>absurd rfl e⟩;rw[hql]at hy;rcases get_set hy with⟨e1,e2⟩|⟨e1,e2⟩
    ·rw[e1,e2];refine⟨c0,c1,c2,by show(x.ps.set _ _).length=_;rw[List.length_set];exact c3,fun m' p hp=>?_⟩;rcases get_set (show(x.ps.set m (.an stt v))[m']?=some p from hp)with⟨f1,f2⟩|⟨f1,f2⟩
     ·rw[f1,f2];exact hv
     ·exact ptq _ _ _ _ (c4 m' p f2) (fun e=>f1 (only _ s k x m' hs hx (by rw[←e];exact f2)).2.2)
    ·obtain⟨c,f1,f2,f3,f4⟩:=h1.cm k' y e2;exact⟨c,f1,f2,f3,fun m' p hp=>ptq _ _ _ _ (f4 m' p hp) (fun e=>e1 (only _ s k' y m' hs e2 (by rw[←e];exact hp)).2.1)⟩
   ·have hj':st.1[j]?=some t:=by rw[←hoth j e];exact hj
    obtain⟨g1,g3⟩:=h.cli j t hj';refine⟨⟨g1.di,g1.ps0,g1.cl0,fun k' y hy=>?_,g1.tx,g1.le,g1.td⟩,fun _=>g3 trivial⟩;obtain⟨c,f1,f2,f3,f4⟩:=g1.cm k' y hy;exact⟨c,f1,f2,f3,fun m' p hp=>ptq _ _ _ _ (f4 m' p hp) (fun e'=>e (only j t k' y m' hj' hy (by rw[←e'];exact hp)).1)⟩
  ·have e:(fun j=>partsN j (q.cs j) (rdN A (st.1.set i s') j))=fun j=>partsN j (q.cs j) (rdN A st.1 j):=by funext j;rw[hrd j]
   show LgI q.Fl sv pt (fun j=>partsN j (q.cs j) (rdN A (st.1.set i s') j)) L;rw[e];exact h.lg
  ·rcases get_set (show(st.2.set o {u with held:=hld})[o']?=some u' from hu')with⟨e1,e2⟩|⟨e1,e2⟩
   ·rw[e1,e2];exact h.sr o u hu
   ·exact h.sr o' u' e2
  ·obtain⟨t,y,g1,g2,g3,g4⟩:=h.opn hF o' id' e he (fun hc'=>hc (.inl hc'));have hno:¬(o'=o∧id'=id):=fun hh=>hc (.inr hh)
   by_cases ei:e.i=i
   ·rw[ei]at g1 g2 g3;rw[hs]at g1;cases g1;by_cases ek:e.n-A i=k
    ·rw[ek,hx]at g3;cases g3;refine⟨s',⟨x.c,x.ps.set m (.an stt v)⟩,by rw[ei];exact hset,by rw[ei];exact g2,by rw[ei,ek,hql];exact List.getElem?_set_self hkl,?_⟩;show(x.ps.set m (.an stt v))[e.m]?=_;have em:m≠e.m:=fun em=>by
      rw[←em,hxm]at g4;have e3:=Option.some.inj g4;injection e3 with e3;injection e3 with e3;injection e3 with e3;injection e3 with e4 e5;exact hno ⟨e4.symm,e5.symm⟩
     rw[List.getElem?_set_ne em];exact g4
    ·exact⟨s',y,by rw[ei];exact hset,by rw[ei];exact g2,by rw[ei,hql,List.getElem?_set_ne (fun e=>ek e.symm)];exact g3,g4⟩
   ·exact⟨t,y,(hoth _ ei).trans g1,g2,g3,g4⟩
  ·rcases hc with e|⟨e1,e2⟩
   ·exact h.clb o' id' e
   ·rw[e1,e2];exact(List.getElem?_eq_some_iff.1 n1).1
 obtain⟨L',A',k1,k2⟩:=h0.run hq i;refine⟨L',A',k1.more (fun j _ _=>by by_cases hj:j=i;exact .inr hj;exact .inl hj),k2.ext,k2.al,fun j=>?_,fun o j e he hj=>?_⟩
 ·have:=k2.rl j;rw[←hrd j];exact this
 ·have:=k2.new o j e he hj;rw[←hrd e.i];exact this
theorem JI.held (h:JI q sv pt win rest F Cl st L A)(hu:st.2[o]?=some u)(l:List UInt8):JI q sv pt win rest F Cl (st.1,st.2.set o {u with held:=l}) L A:=by
 refine⟨h.cli,h.lg,fun o' u' hu'=>?_,by rw[List.length_set];exact h.len,fun hF b hb=>?_,h.opn,h.clb,h.c4,h.s1⟩
 ·rcases get_set (show(st.2.set o {u with held:=l})[o']?=some u' from hu')with⟨e1,e2⟩|⟨e1,e2⟩
  ·rw[e1,e2];exact h.sr o u hu
  ·exact h.sr o' u' e2
 ·obtain⟨v,v1,v2⟩:=h.up hF b hb;by_cases hbo:b=o
  ·subst hbo;rw[hu]at v1;cases v1;exact⟨_,List.getElem?_set_self (List.getElem?_eq_some_iff.1 hu).1,v2⟩
  ·exact⟨v,by rw[List.getElem?_set_ne (fun e=>hbo e.symm)];exact v1,v2⟩
end
variable {c i:Nat}
def ansH (t:Bool)(n id:Nat):List UInt8:=[2,if t=true then 0 else 1,0,UInt8.ofNat n,0,UInt8.ofNat (id % 256),UInt8.ofNat (id / 256)]
theorem ansF_by (t:Bool)(v:ByteArray)(id:Nat):(ansF t v id).data.toList=ansH t v.size id++v.data.toList:=by
 unfold ansF;rw[toList_app];simp only[strOfNums,List.map_cons,List.map_nil,ansH]
 have z1:((v.size:Int)).toNat=v.size:=by omega
 have z3:(((id % 256:Nat):Int)).toNat=id % 256:=by omega
 have z4:(((id / 256:Nat):Int)).toNat=id / 256:=by omega
 rw[z1,z3,z4];cases t<;>rfl
theorem fromR_ans {t:Bool}{v:ByteArray}{id:Nat}(hv:v.size≤40)(hi:id<65536)(hc:c≤7+v.size):fromR ((ansF t v id).data.toList.take c)=if c<7+v.size then(none,true)else(some ⟨if t=true then 0 else 1,id,v,7+v.size⟩,true):=by
 rw[ansF_by];have lv:=len_size' v;have hl:((ansH t v.size id++v.data.toList).take c).length=c:=by rw[List.length_take,List.length_append,lv];show min c (7+v.size)=c;omega
 unfold fromR;rw[hl];by_cases h7:c<7
 ·rw[if_pos h7,if_pos (by omega)]
 ·rw[if_neg h7];have ht:(ansH t v.size id++v.data.toList).take c=ansH t v.size id++v.data.toList.take (c-7):=by
   rw[List.take_append];rw[List.take_of_length_le (show(ansH t v.size id).length≤c by show 7≤c;omega)];rfl
  rw[ht];have b0:byAt (ansH t v.size id++v.data.toList.take (c-7)) 0=2:=rfl;have b1:byAt (ansH t v.size id++v.data.toList.take (c-7)) 1=if t=true then 0 else 1:=by cases t<;>rfl
  have b2:byAt (ansH t v.size id++v.data.toList.take (c-7)) 2=0:=rfl;have b3:byAt (ansH t v.size id++v.data.toList.take (c-7)) 3=v.size:=ofNat_lt _ (by omega);have b4:byAt (ansH t v.size id++v.data.toList.take (c-7)) 4=0:=rfl;have b5:byAt (ansH t v.size id++v.data.toList.take (c-7)) 5=id % 256:=ofNat_lt _ (by omega);have b6:byAt (ansH t v.size id++v.data.toList.take (c-7)) 6=id / 256:=ofNat_lt _ (by omega);have n3:numAt (ansH t v.size id++v.data.toList.take (c-7)) 3=v.size:=by unfold numAt;rw[b3,b4];omega
  have n5:numAt (ansH t v.size id++v.data.toList.take (c-7)) 5=id:=by unfold numAt;rw[b5,b6];omega
  rw[b0,b1,b2,n3,n5];rw[if_neg (by cases t<;>simp<;>omega)];by_cases hlt:c<7+v.size
  ·rw[if_pos hlt,if_pos hlt]
  ·rw[if_neg hlt,if_neg hlt];have e:bytesOf (ansH t v.size id++v.data.toList.take (c-7)) 7 v.size=v:=by
    unfold bytesOf;rw[show(ansH t v.size id++v.data.toList.take (c-7)).drop 7=v.data.toList.take (c-7)from rfl,List.take_take,List.take_of_length_le (by rw[lv];omega)]
   rw[e]
section
variable {q:PlyL}{sv pt win:Nat}{rest:Nat→List UInt8}{F:Nat→Prop}{Cl:Nat→Nat→Prop}{st:List CliQ×List SrvQ}{L:Nat→List En}{A:Nat→Nat}{o:Nat}{u:SrvQ}{piece:List UInt8}{t:Bool}{v:ByteArray}{id:Nat}
theorem answered_part (hu:st.2[o]?=some u)(hv:v.size≤40)(hi:id<65536)(hc:c<7+v.size)(he:u.held++piece=(ansF t v id).data.toList.take c):answeredJ sv pt win o piece st=(st.1,st.2.set o {u with held:=u.held++piece}):=by
 have hol:=(List.getElem?_eq_some_iff.1 hu).1;have hh:hearO st.1 {u with held:=u.held++piece} o= .stop true:=by
  unfold hearO;rw[show({u with held:=u.held++piece}:SrvQ).held=(ansF t v id).data.toList.take c from he,fromR_ans hv hi (by omega),if_pos hc]
 unfold answeredJ;rw[hu];simp only
 unfold listenJ;rw[lisJ_stop (st:=(st.1,st.2.set o {u with held:=u.held++piece})) (List.getElem?_set_self hol) hh];simp
theorem set_set' {α:Type}(l:List α)(i:Nat)(x y:α):(l.set i x).set i y=l.set i y:=by simp
theorem answered_whole {k m:Nat}(hu:st.2[o]?=some u)(hv:v.size≤40)(hi:id<65536)(he:u.held++piece=(ansF t v id).data.toList)(hf:findP o id st.1 0=some (i,k,m))(hm:mayB (kindAt st.1 i k) ⟨if t=true then 0 else 1,id,v,7+v.size⟩=true):answeredJ sv pt win o piece st=runJ sv pt win i (anJ st.1 i k m ⟨if t=true then 0 else 1,id,v,7+v.size⟩,st.2.set o {u with held:=[]}):=by
 have hol:=(List.getElem?_eq_some_iff.1 hu).1;have lB:(ansF t v id).data.toList.length=7+v.size:=by rw[len_size',ansF_size]
 have hfr:=fromR_ans (t:=t) (v:=v) (id:=id) (c:=7+v.size) hv hi (Nat.le_refl _);rw[List.take_of_length_le (by omega),if_neg (by omega)]at hfr;have hh:hearO (st.1,st.2.set o {u with held:=u.held++piece}).1 {u with held:=u.held++piece} o= .got i k m ⟨if t=true then 0 else 1,id,v,7+v.size⟩:=by
  unfold hearO;rw[show({u with held:=u.held++piece}:SrvQ).held=(ansF t v id).data.toList from he,hfr];simp only
  rw[hf];simp only
  rw[if_pos hm]
 have hs1:(st.1,st.2.set o {u with held:=u.held++piece}).2[o]?=some {u with held:=u.held++piece}:=List.getElem?_set_self hol;have hd:({u with held:=u.held++piece}:SrvQ).held.drop (7+v.size)=[]:=by rw[show({u with held:=u.held++piece}:SrvQ).held=(ansF t v id).data.toList from he];exact List.drop_eq_nil_of_le (by omega)
 obtain⟨s',a1,a2,_⟩:=got_held (sv:=sv) (pt:=pt) (win:=win) hs1 hh;have hg:=lisJ_got (sv:=sv) (pt:=pt) (win:=win) hs1 hh;rw[show(Reply.used ⟨if t=true then 0 else 1,id,v,7+v.size⟩)=7+v.size from rfl]at a1 a2 hg;rw[hd]at a1 a2 hg;have hst:hearO (runJ sv pt win i (anJ (st.1,st.2.set o {u with held:=u.held++piece}).1 i k m ⟨if t=true then 0 else 1,id,v,7+v.size⟩,(st.1,st.2.set o {u with held:=u.held++piece}).2.set o {({u with held:=u.held++piece}:SrvQ)with held:=[]})).1 s' o= .stop true:=by
  unfold hearO;rw[a2];rfl
 unfold answeredJ;rw[hu];simp only
 unfold listenJ;rw[hg,lisJ_stop a1 hst,if_pos rfl];simp only[set_set']
theorem partsN_mem {cs:List Cmd}:∀{n:Nat} {e:En},e∈partsN i cs n→e.i=i∧e.n<n∧∃c,cs[e.n]?=some c∧e.k=c.kind∧e.val=c.val∧c.keys[e.m]?=some e.key:=by
 intro n;induction n with
 |zero=>intro e h;cases h
 |succ n ih=>
  intro e h;rcases List.mem_append.1 (show e∈partsN i cs n++_ from h)with h|h
  ·obtain⟨h1,h2,h3⟩:=ih h;exact⟨h1,by omega,h3⟩
  ·cases hc:cs[n]?with
   |none=>rw[hc]at h;cases h
   |some c=>
    rw[hc]at h;obtain⟨m,hm⟩:=List.mem_iff_getElem?.1 h;simp only[partsK,List.getElem?_mapIdx]at hm;cases hk:c.keys[m]?with
    |none=>rw[hk]at hm;cases hm
    |some key=>
     rw[hk]at hm;simp at hm;rw[←hm];exact⟨rfl,Nat.lt_succ_self _,c,hc,rfl,rfl,hk⟩
theorem JI.entry (h:JI q sv pt win rest F Cl st L A){o j:Nat}{e:En}(he:(L o)[j]?=some e):e.n<rdN A st.1 e.i∧ownerN sv pt e.key=o∧∃c,(q.cs e.i)[e.n]?=some c∧e.k=c.kind∧e.val=c.val∧c.keys[e.m]?=some e.key:=by
 have h1:e∈(L o).filter (fun x=>x.i==e.i):=List.mem_filter.2 ⟨List.mem_of_getElem? he,by simp⟩;obtain⟨h3,h4⟩:=List.mem_filter.1 ((h.lg.sub o e.i).subset h1);obtain⟨_,h5,h6⟩:=partsN_mem h3;exact⟨h5,by simpa using h4,h6⟩
theorem JI.frs (hq:PlyLOk q)(h:JI q sv pt win rest F Cl st L A)(o:Nat):FrsOk (frsE (L o))∧(L o).length≤800:=by
 have hk4:∀j,∀c∈q.cs j,c.keys.length≤4:=fun j c hc=>(askable_of (hq.hg j c hc).cmd).len4
 have hl:=h.lg.short (fun j=>by
  have h1:=partsN_len (i:=j) (hk4 j) (rdN A st.1 j);have h2:rdN A st.1 j≤40:=by
   unfold rdN;split
   ·rename_i s' hs';exact Nat.le_trans (h.cli j s' hs').1.le (hq.hl j)
   ·omega
  omega) o
 refine⟨fun f hf=>?_,hl⟩;obtain⟨j,hj⟩:=List.mem_iff_getElem?.1 hf;have hjl:=(List.getElem?_eq_some_iff.1 hj).1;rw[frsE_len]at hjl;rw[frsE_get (List.getElem?_eq_getElem hjl)]at hj;obtain⟨_,_,c,c1,c2,c3,c4⟩:=h.entry (List.getElem?_eq_getElem hjl);have G:=askable_of (hq.hg _ c (List.mem_of_getElem? c1)).cmd;have hj2:=(Option.some.inj hj).symm;rw[hj2];exact⟨by rw[c2];exact G.kind,G.keys _ (List.mem_of_getElem? c4),by rw[c3];exact G.val40,by show j<65536;omega⟩
end
variable {n i:Nat}
structure PB (gs:List Int)(w W:World)(P X sv pt win:Nat)(css:List (List Cmd))(sd:List Nat)(st:List CliQ×List SrvQ)(D:PlD):Prop where
 pl:PlayV w W P X sv pt win (4000*sd.sum) st D
 cl:st.1.length=css.length
 lS:D.S.length=sv
 txt:D.txt=txtOf gs css
 wnt:D.wnt=wntOf gs css
 lsd:sd.length=css.length
 sle:∀(i n:Nat),sd[i]?=some n→n≤(txI gs css i).length
 c4:css.length≤4
 said:Saids gs css
section
variable {gs:List Int}{w W W':World}{P X sv pt win:Nat}{css:List (List Cmd)}{sd:List Nat}{st st':List CliQ×List SrvQ}{D D':PlD}
theorem PB.to (h:PB gs w W P X sv pt win css sd st D)(k:PlayV w W' P X sv pt win (4000*sd.sum) st' D)(hl:st'.1.length=st.1.length):PB gs w W' P X sv pt win css sd st' D:=
 ⟨k,hl.trans h.cl,h.lS,h.txt,h.wnt,h.lsd,h.sle,h.c4,h.said⟩
theorem PB.below (h:PB gs w W P X sv pt win css sd st D)(hb:Below W.heap.size W W'):PB gs w W' P X sv pt win css sd st D:=h.to (h.pl.below hb) rfl
theorem PB.withD (h:PB gs w W P X sv pt win css sd st D)(k:PlayV w W' P X sv pt win (4000*sd.sum) st D')(e1:D'.S.length=D.S.length)(e2:D'.txt=D.txt)(e3:D'.wnt=D.wnt):PB gs w W' P X sv pt win css sd st D':=
 ⟨k,h.cl,e1.trans h.lS,e2.trans h.txt,e3.trans h.wnt,h.lsd,h.sle,h.c4,h.said⟩
theorem PB.sum (h:PB gs w W P X sv pt win css sd st D):sd.sum≤60000:=by
 have h1:=sum_le 15000 sd (fun x hx=>by
  obtain⟨i,hi⟩:=List.mem_iff_getElem?.1 hx;exact Nat.le_trans (h.sle i x hi) (h.said.size' i))
 have h2:=h.lsd;have h3:=h.c4;have:15000*sd.length≤15000*4:=Nat.mul_le_mul_left _ (by omega);omega
theorem PB.lt (h:PB gs w W P X sv pt win css sd st D):D.txt.length=css.length:=by rw[h.txt];simp[txtOf]
theorem PB.s14 (h:PB gs w W P X sv pt win css sd st D):1≤sv∧sv≤4:=by
 obtain⟨M,_,⟨_,_,_,_,_,h1,_⟩,_⟩:=h.pl;exact⟨h1.s1,h1.s4⟩
theorem PB.v1 (h:PB gs w W P X sv pt win css sd st D):∃a c,D.v1= .slice a sv c∧sv≤c:=by
 obtain⟨a,c,e,f,_⟩:=h.pl.rowAt (i:=0) (n:=sv) rfl (by show(D.S.map _).length=_;rw[List.length_map];exact h.lS);exact⟨a,c,e,f⟩
theorem PB.v2 (h:PB gs w W P X sv pt win css sd st D):∃a c,D.v2= .slice a css.length c∧css.length≤c:=by
 obtain⟨a,c,e,f,_⟩:=h.pl.rowAt (i:=1) (n:=css.length) rfl (by show(D.txt.map _).length=_;rw[List.length_map];exact h.lt);exact⟨a,c,e,f⟩
theorem PB.srv (h:PB gs w W P X sv pt win css sd st D)(hn:n<sv):∃s g c,D.S[n]?=some s∧D.v1= .slice (some ⟨g,0,none⟩) sv c∧g<W.heap.size∧W.cell? ⟨g,n,none⟩=some (.pointer (some ⟨s.b,0,none⟩)):=by
 have hs:D.S[n]?=some (D.S[n]'(by rw[h.lS];exact hn)):=List.getElem?_eq_getElem _;obtain⟨g,c,e1,_,e2,e3⟩:=h.pl.cellsAt (i:=0) (n:=sv) (j:=n) (u:=ptrV (D.S[n]'(by rw[h.lS];exact hn)).b) rfl (by show(D.S.map _).length=_;rw[List.length_map];exact h.lS) (by show(D.S.map _)[n]?=_;rw[List.getElem?_map,hs];rfl);exact⟨_,g,c,hs,e1,e2,e3⟩
theorem PB.cli (h:PB gs w W P X sv pt win css sd st D)(hi:i<css.length):∃g c,D.v2= .slice (some ⟨g,0,none⟩) css.length c∧g<W.heap.size∧W.cell? ⟨g,i,none⟩=some (.string (mkB (txI gs css i))):=by
 have hs:D.txt[i]?=some (mkB (txI gs css i)):=by
  rw[h.txt];unfold txtOf txI;rw[List.getElem?_mapIdx,List.getElem?_eq_getElem hi,csOf_some (List.getElem?_eq_getElem hi)];rfl
 obtain⟨g,c,e1,_,e2,e3⟩:=h.pl.cellsAt (i:=1) (n:=css.length) (j:=i) (u:= .string (mkB (txI gs css i))) rfl (by show(D.txt.map _).length=_;rw[List.length_map];exact h.lt) (by show(D.txt.map _)[i]?=_;rw[List.getElem?_map,hs];rfl);exact⟨g,c,e1,e2,e3⟩
theorem PB.cliQ (h:PB gs w W P X sv pt win css sd st D)(hi:i<css.length):∃s,st.1[i]?=some s:=⟨_,List.getElem?_eq_getElem (by rw[h.cl];exact hi)⟩
theorem rest_set {gs:List Int}{css:List (List Cmd)}{sd:List Nat}{piece r:List UInt8}(hn:sd[i]?=some n)(hr:restOf gs css sd i=piece++r):(fun j=>if j=i then r else restOf gs css sd j)=restOf gs css (sd.set i (n+piece.length)):=by
 have hil:=(List.getElem?_eq_some_iff.1 hn).1;funext j;by_cases hj:j=i
 ·rw[if_pos hj,hj];unfold restOf at hr⊢;rw[List.getElem?_set_self hil];rw[hn]at hr;show r=(txI gs css i).drop (n+piece.length);rw[←List.drop_drop];have hr':(txI gs css i).drop n=piece++r:=hr;rw[hr'];exact(List.drop_left).symm
 ·rw[if_neg hj];unfold restOf;rw[List.getElem?_set_ne (fun e=>hj e.symm)]
theorem Bg2.pb (h:Bg2 gs w W P X sv pt win css D)(hc:css.length≤4):PB gs w W P X sv pt win css (List.replicate css.length 0) (cliOf gs css,List.replicate sv ⟨true,0,[],[]⟩) D:=by
 have hs0:(List.replicate css.length 0).sum=0:=by simp
 refine⟨by rw[hs0];exact h.pl,by simp[cliOf],h.lS,h.txt,h.wnt,by simp,fun i n hn=>?_,hc,h.said⟩;have:=(List.mem_replicate.1 (List.mem_of_getElem? hn)).2;rw[this];exact Nat.zero_le _
theorem ji_start {q:PlyL}(hqd:∀i,q.d i=((dOf gs i:Nat):Int))(hqc:q.cs=csOf css)(hP:∀i,q.P i [] 0)(hs:1≤sv)(hc:css.length≤4):JI q sv pt win (restOf gs css (List.replicate css.length 0)) (fun _=>True) (fun _ _=>False) (cliOf gs css,List.replicate sv ⟨true,0,[],[]⟩) (fun _=>[]) (fun _=>0):=by
 have hr:∀i,restOf gs css (List.replicate css.length 0) i=txI gs css i:=fun i=>by
  unfold restOf;rw[List.getElem?_replicate];split<;>rfl
 have hnew:∀(i:Nat) (s:CliQ),(cliOf gs css)[i]?=some s→s=newQ (dOf gs i):=fun i s hs'=>by
  unfold cliOf at hs';rw[List.getElem?_mapIdx]at hs';cases hcs:css[i]?with
  |none=>rw[hcs]at hs';cases hs'
  |some cs=>rw[hcs]at hs';simpa using hs'.symm
 have hrd:∀i,rdN (fun _=>0) (cliOf gs css) i=0:=fun i=>by
  cases hs':(cliOf gs css)[i]?with
  |none=>unfold rdN;rw[hs']
  |some s=>rw[rdN_some hs',hnew i s hs'];rfl
 have hrep:∀(o:Nat) (u:SrvQ),(List.replicate sv (⟨true,0,[],[]⟩:SrvQ))[o]?=some u→u=⟨true,0,[],[]⟩:=fun o u hu=>(List.mem_replicate.1 (List.mem_of_getElem? hu)).2
 refine⟨fun i s hs'=>?_,?_,fun o u hu=>?_,by simp,fun _ o ho=>⟨⟨true,0,[],[]⟩,?_,rfl⟩,fun _ o id e he=>(by simp at he),fun o id h=>h.elim,by simp[cliOf];exact hc,hs⟩
 ·have e:=hnew i s hs';subst e;refine⟨⟨(hqd i).symm,rfl,rfl,fun k x hx=>?_,?_,Nat.zero_le _,hP i⟩,fun _=>⟨fun x l e=>?_,fun _=>readR_nil _⟩⟩
  ·simp[newQ]at hx
  ·rw[hr,hqc,hqd];rfl
  ·simp[newQ]at e
 ·have e:(fun i=>partsN i (q.cs i) (rdN (fun _=>0) (cliOf gs css) i))=fun _=>[]:=by funext i;rw[hrd i];rfl
  show LgI q.Fl sv pt (fun i=>partsN i (q.cs i) (rdN (fun _=>0) (cliOf gs css) i)) _;rw[e];exact⟨fun o i=>List.Sublist.refl _,fun _ o i=>rfl,fun o e he=>(by cases he)⟩
 ·rw[hrep o u hu];exact⟨rfl,rfl⟩
 ·show(List.replicate sv (⟨true,0,[],[]⟩:SrvQ))[o]?=_;rw[List.getElem?_replicate,if_pos ho]
end
variable {kind:Int}{k x key:ByteArray}{p:ByteArray×ByteArray}{l:List (ByteArray×ByteArray)}{i n m:Nat}{cs:List Cmd}{c:Cmd}
def lk (k:ByteArray):List (ByteArray×ByteArray)→Option ByteArray
 | []=>none
 |p::l=>if p.1=k then some p.2 else lk k l
def doesR (kind:Int)(o:Option ByteArray):Bool×ByteArray:=if kind=2 then(true,noB)else(o.isSome,if kind=1 then o.getD noB else noB)
def nextR (kind:Int)(x:ByteArray)(o:Option ByteArray):Option ByteArray:=if kind=2 then some x else if kind=3 then none else o
def Uq (L:List (ByteArray×ByteArray)):Prop:=(L.map (·.1)).Nodup
theorem doesP_ne (h:p.1≠k):doesP kind k x (p::l)=((doesP kind k x l).1,p::(doesP kind k x l).2):=by
 unfold doesP;have e:findN k (p::l)=(findN k l).map (· +1):=by show(if p.1=k then _ else _)=_;rw[if_neg h]
 rw[e];cases findN k l with
 |none=>
  simp only[Option.map_none]
  split<;>rfl
 |some i=>
  simp only[Option.map_some]
  split
  ·rfl
  ·split
   ·rfl
   ·split<;>rfl
theorem doesP_eq (h:p.1=k):doesP kind k x (p::l)=((true,if kind=1 then p.2 else noB),if kind=2 then(k,x)::l else if kind=3 then l else p::l):=by
 unfold doesP;have e:findN k (p::l)=some 0:=by show(if p.1=k then _ else _)=_;rw[if_pos h]
 rw[e];simp only
 by_cases h1:kind=1
 ·rw[if_pos h1,if_pos h1,if_neg (by omega),if_neg (by omega)];rfl
 ·rw[if_neg h1,if_neg h1];split
  ·rfl
  ·split<;>rfl
theorem lk_none:∀{L:List (ByteArray×ByteArray)},k∉L.map (·.1)→lk k L=none:=by
 intro L;induction L with
 |nil=>intro _;rfl
 |cons p l ih=>
  intro h;simp at h;show(if p.1=k then _ else _)=_;rw[if_neg (fun e=>h.1 e.symm)];exact ih (by simpa using h.2)
theorem doesP_lk (kind:Int)(k x:ByteArray):∀(L:List (ByteArray×ByteArray)),Uq L→(doesP kind k x L).1=doesR kind (lk k L)∧(∀k',lk k' (doesP kind k x L).2=if k'=k then nextR kind x (lk k L)else lk k' L)∧Uq (doesP kind k x L).2∧∀k'∈(doesP kind k x L).2.map (·.1),k'=k∨k'∈L.map (·.1):=by
 intro L;induction L with
 |nil=>
  intro _;have e:doesP kind k x []=if kind=2 then((true,noB),[(k,x)])else((false,noB),[]):=rfl
  rw[e];by_cases h2:kind=2
  ·rw[if_pos h2];refine⟨by simp[doesR,h2],fun k'=>?_,by simp[Uq],by simp⟩;simp only[lk,nextR,h2]
   by_cases e:k'=k
   ·rw[if_pos e,if_pos e.symm];rfl
   ·rw[if_neg e,if_neg (fun h=>e h.symm)]
  ·rw[if_neg h2];refine⟨?_,fun k'=>?_,by simp[Uq],by simp⟩
   ·simp only[doesR,lk,if_neg h2];simp
   ·simp only[lk,nextR,if_neg h2];simp
 |cons p l ih=>
  intro hU;have hU':p.1∉l.map (·.1)∧Uq l:=List.nodup_cons.1 hU;by_cases hk:p.1=k
  ·rw[doesP_eq hk];have hl:lk k (p::l)=some p.2:=if_pos hk;have hkl:lk k l=none:=lk_none (by rw[←hk];exact hU'.1);rw[hl];refine⟨?_,fun k'=>?_,?_,?_⟩
   ·unfold doesR;by_cases h2:kind=2
    ·rw[if_pos h2,if_pos h2,if_neg (by omega)]
    ·rw[if_neg h2,if_neg h2];simp
   ·unfold nextR;simp only
    by_cases h2:kind=2
    ·rw[if_pos h2,if_pos h2];show(if k=k' then some x else lk k' l)=if k'=k then some x else lk k' (p::l)
     by_cases e:k'=k
     ·rw[if_pos e,if_pos e.symm]
     ·rw[if_neg e,if_neg (fun h=>e h.symm)];show _=if p.1=k' then _ else _
      rw[if_neg (fun h=>e (by rw[←h,hk]))]
    ·rw[if_neg h2,if_neg h2];by_cases h3:kind=3
     ·rw[if_pos h3,if_pos h3];by_cases e:k'=k
      ·rw[if_pos e,e];exact hkl
      ·rw[if_neg e];show _=if p.1=k' then _ else _
       rw[if_neg (fun h=>e (by rw[←h,hk]))]
     ·rw[if_neg h3,if_neg h3];by_cases e:k'=k
      ·rw[if_pos e,e];exact hl
      ·rw[if_neg e]
   ·simp only
    by_cases h2:kind=2
    ·rw[if_pos h2];exact List.nodup_cons.2 ⟨by show k∉_;rw[←hk];exact hU'.1,hU'.2⟩
    ·rw[if_neg h2];by_cases h3:kind=3
     ·rw[if_pos h3];exact hU'.2
     ·rw[if_neg h3];exact hU
   ·intro k' h;simp only at h;by_cases h2:kind=2
    ·rw[if_pos h2]at h;simp at h;rcases h with e|e
     ·exact .inl e
     ·exact .inr (by simp;exact .inr e)
    ·rw[if_neg h2]at h;by_cases h3:kind=3
     ·rw[if_pos h3]at h;exact .inr (by simp at h⊢;exact .inr h)
     ·rw[if_neg h3]at h;exact .inr h
  ·obtain⟨i1,i2,i3,i4⟩:=ih hU'.2;rw[doesP_ne hk];have hl:lk k (p::l)=lk k l:=if_neg hk;rw[hl];refine⟨i1,fun k'=>?_,?_,fun k' h=>?_⟩
   ·show(if p.1=k' then some p.2 else lk k' _)=_;by_cases e:p.1=k'
    ·rw[if_pos e,if_neg (fun h=>hk (by rw[e,h]))];show _=if p.1=k' then _ else _
     rw[if_pos e]
    ·rw[if_neg e,i2 k'];by_cases e2:k'=k
     ·rw[if_pos e2,if_pos e2]
     ·rw[if_neg e2,if_neg e2];show _=if p.1=k' then _ else _
      rw[if_neg e]
   ·exact List.nodup_cons.2 ⟨fun h=>by
     rcases i4 p.1 h with e|e
     ·exact hk e
     ·exact hU'.1 e,i3⟩
   ·simp at h;rcases h with e|⟨v,e⟩
    ·exact .inr (by simp[e])
    ·rcases i4 k' (by simp;exact⟨v,e⟩)with f|f
     ·exact .inl f
     ·exact .inr (by simp at f⊢;exact .inr f)
def shopE (es:List En):List (ByteArray×ByteArray):=es.foldl (fun L e=>(doesP e.k e.key e.val L).2) []
theorem shopE_snoc (es:List En)(e:En):shopE (es++[e])=(doesP e.k e.key e.val (shopE es)).2:=by unfold shopE;rw[List.foldl_append];rfl
theorem list_snoc {α:Type}(l:List α):l=[]∨∃l' x,l=l'++[x]:=by
 cases h:l.reverse with
 |nil=>left;simpa using h
 |cons x r=>
  right;refine⟨r.reverse,x,?_⟩;have:=congrArg List.reverse h;simpa using this
theorem shopE_uq:∀(n:Nat) (es:List En),es.length=n→Uq (shopE es):=by
 intro n;induction n with
 |zero=>intro es h;rw[List.length_eq_zero_iff.1 h];simp[Uq,shopE]
 |succ n ih=>
  intro es h;rcases list_snoc es with e|⟨l,x,e⟩
  ·rw[e]at h;cases h
  ·subst e;rw[shopE_snoc];exact(doesP_lk _ _ _ _ (ih l (by rw[List.length_append]at h;simpa using h))).2.2.1
theorem shopE_lk (k:ByteArray):∀(n:Nat) (es:List En),es.length=n→lk k (shopE es)=lk k (shopE (es.filter (fun e=>decide (e.key=k)))):=by
 intro n;induction n with
 |zero=>intro es h;rw[List.length_eq_zero_iff.1 h];rfl
 |succ n ih=>
  intro es h;rcases list_snoc es with e|⟨l,x,e⟩
  ·rw[e]at h;cases h
  ·subst e;have hl:l.length=n:=by rw[List.length_append]at h;simpa using h
   rw[shopE_snoc,(doesP_lk _ _ _ _ (shopE_uq n l hl)).2.1,List.filter_append];by_cases hk:k=x.key
   ·subst hk;rw[if_pos rfl,ih l hl];have e1: [x].filter (fun e=>decide (e.key=x.key))=[x]:=by simp
    rw[e1,shopE_snoc,(doesP_lk _ _ _ _ (shopE_uq _ _ rfl)).2.1,if_pos rfl]
   ·rw[if_neg hk];have e1: [x].filter (fun e=>decide (e.key=k))=[]:=by simp;exact fun h=>hk h.symm
    rw[e1,List.append_nil];exact ih l hl
theorem does_same {e:En}{a b:List En}(h:a.filter (fun x=>decide (x.key=e.key))=b.filter (fun x=>decide (x.key=e.key))):(doesP e.k e.key e.val (shopE a)).1=(doesP e.k e.key e.val (shopE b)).1:=by
 rw[(doesP_lk _ _ _ _ (shopE_uq _ _ rfl)).1,(doesP_lk _ _ _ _ (shopE_uq _ _ rfl)).1,shopE_lk _ _ a rfl,shopE_lk _ _ b rfl,h]
theorem cut_same {α:Type}{e:α}:∀{a b c d:List α},a++e::b=c++e::d→(a++e::b).Nodup→a=c:=by
 intro a;induction a with
 |nil=>
  intro b c d h hn;cases c with
  |nil=>rfl
  |cons x c=>
   simp at h hn;obtain⟨rfl,h2⟩:=h;exact absurd (by rw[h2];simp) hn.1
 |cons y a ih=>
  intro b c d h hn;cases c with
  |nil=>
   simp at h hn;obtain⟨rfl,_⟩:=h;exact absurd rfl hn.1.2.1
  |cons x c=>
   simp only[List.cons_append,List.cons.injEq]at h;rw[h.1,ih h.2 (List.nodup_cons.1 hn).2]
def befE (i:Nat)(cs:List Cmd)(n m:Nat):List En:=partsN i cs n++(match cs[n]?with|some c=>(partsK i n c.kind c.val c.keys).take m|none=>[])
theorem befE_zero (i:Nat)(cs:List Cmd)(n:Nat):befE i cs n 0=partsN i cs n:=by
 unfold befE;cases cs[n]?<;>simp
theorem partsK_get {k:Int}{val:ByteArray}{ks:List ByteArray}(h:ks[m]?=some key):(partsK i n k val ks)[m]?=some ⟨i,n,m,k,key,val⟩:=by
 unfold partsK;rw[List.getElem?_mapIdx,h];rfl
theorem befE_succ (hc:cs[n]?=some c)(hk:c.keys[m]?=some key):befE i cs n (m+1)=befE i cs n m++[⟨i,n,m,c.kind,key,c.val⟩]:=by
 unfold befE;rw[hc];simp only
 rw[List.take_add_one,partsK_get hk,List.append_assoc];rfl
theorem befE_all (hc:cs[n]?=some c):befE i cs n c.keys.length=partsN i cs (n+1):=by
 rw[partsN_succ hc];unfold befE;rw[hc];simp only
 rw[List.take_of_length_le (by unfold partsK;rw[List.length_mapIdx];exact Nat.le_refl _)]
theorem partsN_more:∀r,∃t,partsN i cs (n+r)=partsN i cs n++t:=by
 intro r;induction r with
 |zero=>exact⟨[],by simp⟩
 |succ r ih=>
  obtain⟨t,ht⟩:=ih;exact⟨t++(match cs[n+r]?with|some c=>partsK i (n+r) c.kind c.val c.keys|none=>[]),by
   show partsN i cs (n+r)++_=_;rw[ht,List.append_assoc];rfl⟩
theorem partsN_split {R:Nat}(hc:cs[n]?=some c)(hk:c.keys[m]?=some key)(hR:n<R):∃t,partsN i cs R=befE i cs n m++⟨i,n,m,c.kind,key,c.val⟩::t:=by
 obtain⟨t,ht⟩:=partsN_more (i:=i) (cs:=cs) (n:=n+1) (R-(n+1));rw[show n+1+(R-(n+1))=R by omega,partsN_succ hc]at ht;have hg:=partsK_get (i:=i) (n:=n) (k:=c.kind) (val:=c.val) hk;have hl:=(List.getElem?_eq_some_iff.1 hg).1;have e:partsK i n c.kind c.val c.keys=(partsK i n c.kind c.val c.keys).take m++⟨i,n,m,c.kind,key,c.val⟩::(partsK i n c.kind c.val c.keys).drop (m+1):=by
  rw[←(List.getElem?_eq_some_iff.1 hg).2,←List.drop_eq_getElem_cons hl,List.take_append_drop]
 refine⟨(partsK i n c.kind c.val c.keys).drop (m+1)++t,?_⟩;rw[ht];unfold befE;rw[hc];simp only
 conv=>lhs;rw[e]
 simp
theorem partsN_nodup:∀n,(partsN i cs n).Nodup:=by
 intro n;induction n with
 |zero=>exact List.nodup_nil
 |succ n ih=>
  show(partsN i cs n++_).Nodup;refine List.nodup_append.2 ⟨ih,?_,fun a ha b hb e=>?_⟩
  ·cases cs[n]?with
   |none=>exact List.nodup_nil
   |some c=>
    simp only
    unfold partsK;refine List.pairwise_iff_getElem.2 (fun a b ha hb hab e=>?_);have e2:=congrArg En.m e;simp at e2;omega
  ·subst e;obtain⟨_,h2,_⟩:=partsN_mem ha;cases hc:cs[n]?with
   |none=>rw[hc]at hb;cases hb
   |some c=>
    rw[hc]at hb;obtain⟨m,hm⟩:=List.mem_iff_getElem?.1 hb;simp only[partsK,List.getElem?_mapIdx]at hm;cases hk:c.keys[m]?with
    |none=>rw[hk]at hm;cases hm
    |some key=>
     rw[hk]at hm;simp at hm;rw[←hm]at h2;simp at h2
def resE (i:Nat)(cs:List Cmd)(n m:Nat)(c:Cmd)(key:ByteArray):Bool×ByteArray:=(doesP c.kind key c.val (shopE (befE i cs n m))).1
variable {i n:Nat}{cs:List Cmd}{c:Cmd}{d:Int}
theorem alKeys_L (hc:cs[n]?=some c):∀m,m≤c.keys.length→(alKeys c.kind c.val (c.keys.take m) ⟨[],[],2,shopE (partsN i cs n)⟩).L=shopE (befE i cs n m):=by
 intro m;induction m with
 |zero=>intro _;rw[befE_zero];rfl
 |succ m ih=>
  intro hm;have hk:c.keys[m]?=some c.keys[m]:=List.getElem?_eq_getElem (by omega);rw[List.take_add_one,hk];simp only[Option.toList_some]
  rw[alKeys_snoc,befE_succ hc hk,shopE_snoc,←ih (by omega)];rfl
theorem alRun_L (d:Int)(i:Nat)(cs:List Cmd):∀n,n≤cs.length→(alRun d 0 (cs.take n) ([],[])).2=shopE (partsN i cs n):=by
 intro n;induction n with
 |zero=>intro _;rfl
 |succ n ih=>
  intro hn;have hc:cs[n]?=some cs[n]:=List.getElem?_eq_getElem (by omega);rw[List.take_add_one,hc];simp only[Option.toList_some]
  rw[alRun_snoc,←befE_all hc];show(alKeys _ _ _ ⟨[],[],2,(alRun d 0 (cs.take n) ([],[])).2⟩).L=_;rw[ih (by omega)];have:=alKeys_L (i:=i) hc cs[n].keys.length (Nat.le_refl _);rw[List.take_length]at this;exact this
def VF (i:Nat)(cs:List Cmd)(n m st:Nat)(v:ByteArray):Prop:=∃c key,cs[n]?=some c∧c.keys[m]?=some key∧st=(if(resE i cs n m c key).1=true then 0 else 1)∧v=(resE i cs n m c key).2
theorem VF.yes {m st:Nat}{v:ByteArray}(h:VF i cs n m st v){key:ByteArray}(hc:cs[n]?=some c)(hk:c.keys[m]?=some key):PS.yes (.an st v)=(resE i cs n m c key).1∧PS.val (.an st v)=(resE i cs n m c key).2∧PS.ref (.an st v)=false:=by
 obtain⟨c',key',h1,h2,h3,h4⟩:=h;rw[hc]at h1;cases h1;rw[hk]at h2;cases h2;refine⟨?_,h4,?_⟩
 ·show decide (st=0)=_;rw[h3];cases (resE i cs n m c key).1<;>rfl
 ·show decide (st=2)=false;rw[h3];cases (resE i cs n m c key).1<;>rfl
section
variable {i a:Nat}{cs:List Cmd}{c:Cmd}{ps:List PS}
theorem alKeys_get (hc:cs[a]?=some c)(h1:c.kind=1)(hl:ps.length=c.keys.length)(hv:∀(m:Nat) (p:PS),ps[m]?=some p→∃st v,p= .an st v∧VF i cs a m st v):∀m,m≤c.keys.length→(alKeys c.kind c.val (c.keys.take m) ⟨[],[],2,shopE (partsN i cs a)⟩).bs=(ps.take m).map PS.yes∧(alKeys c.kind c.val (c.keys.take m) ⟨[],[],2,shopE (partsN i cs a)⟩).vs=(ps.take m).map PS.val∧(0<m→(alKeys c.kind c.val (c.keys.take m) ⟨[],[],2,shopE (partsN i cs a)⟩).ak=1):=by
 intro m;induction m with
 |zero=>intro _;exact⟨rfl,rfl,fun h=>(by omega)⟩
 |succ m ih=>
  intro hm;obtain⟨i1,i2,_⟩:=ih (by omega);have hk:c.keys[m]?=some c.keys[m]:=List.getElem?_eq_getElem (by omega);have hp:ps[m]?=some ps[m]:=List.getElem?_eq_getElem (by omega);obtain⟨st,v,e,hV⟩:=hv m _ hp;obtain⟨y1,y2,_⟩:=hV.yes hc hk;have hL:=alKeys_L (i:=i) hc m (by omega);rw[List.take_add_one,hk,List.take_add_one,hp,e];simp only[Option.toList_some]
  rw[alKeys_snoc,List.map_append,List.map_append];unfold alStep;rw[hL,i1,i2];simp only[List.map_cons,List.map_nil,y1,y2]
  refine⟨?_,?_,fun _=>?_⟩
  ·rw[if_pos h1];rfl
  ·rw[if_pos h1];rfl
  ·unfold akOf;rw[if_pos h1]
theorem tellS_id {ck ak:Int}{ss:List ByteArray}{bs:List Bool}{vs:List ByteArray}{wd:ByteArray}{id id':Int}(h:d=2→id=id'):tellS d ck ak ss bs vs wd id=tellS d ck ak ss bs vs wd id':=by
 unfold tellS;by_cases h2:d=2
 ·rw[h h2]
 ·by_cases h1:d=1
  ·rw[if_pos h1,if_pos h1]
  ·rw[if_neg h1,if_neg h2,if_neg h1,if_neg h2]
theorem tellS_pl (d ck ak:Int)(ss:List ByteArray)(bs:List Bool)(vs:List ByteArray)(wd:ByteArray)(id:Int)(h:ak≠1):tellS d ck ak ss bs vs wd id=tellS d ck ak ss [] [] wd id:=by
 unfold tellS;simp only[if_neg h]
theorem toldAl (hg:GoodC d c)(hc:cs[a]?=some c)(hl:ps.length=c.keys.length)(hv:∀(m:Nat) (p:PS),ps[m]?=some p→∃st v,p= .an st v∧VF i cs a m st v):(alRun d 0 (cs.take (a+1)) ([],[])).1=(alRun d 0 (cs.take a) ([],[])).1++(toldB d ⟨cmdN d a c,ps⟩).data.toList:=by
 have A:=askable_of hg.cmd;have hal:=(List.getElem?_eq_some_iff.1 hc).1;have hne:c.keys≠[]:=fun e=>by have:=A.len1;rw[e]at this;simp at this
 rw[List.take_add_one,hc];simp only[Option.toList_some]
 rw[alRun_snoc,Nat.zero_add,List.length_take,Nat.min_eq_left (by omega)];unfold alCmd;simp only
 rw[alRun_L d i cs a (by omega)];refine congrArg _ (congrArg (fun b:ByteArray=>b.data.toList) ?_);unfold toldB;rw[if_neg (show¬(cmdN d a c).keys=[]from hne)];have hfa:(⟨cmdN d a c,ps⟩:QS).fa=false:=by
  unfold QS.fa;rw[List.any_eq_false];intro p hp;obtain⟨m,hm⟩:=List.mem_iff_getElem?.1 hp;obtain⟨st,v,e,_⟩:=hv m p hm;rw[e];simp[PS.bad]
 have hre:(⟨cmdN d a c,ps⟩:QS).re=false:=by
  unfold QS.re;rw[List.any_eq_false];intro p hp;obtain⟨m,hm⟩:=List.mem_iff_getElem?.1 hp;obtain⟨st,v,e,hV⟩:=hv m p hm;have hml:m<ps.length:=(List.getElem?_eq_some_iff.1 hm).1;rw[e,(hV.yes hc (List.getElem?_eq_getElem (by omega))).2.2];simp
 have hwd:(⟨cmdN d a c,ps⟩:QS).wd=noB:=by unfold QS.wd;rw[hfa,hre];rfl
 have hak:(⟨cmdN d a c,ps⟩:QS).ak=if c.kind=1 then 1 else if c.kind=2 then 2 else if(ps.map PS.yes).headD false=true then 3 else 4:=by unfold QS.ak;rw[hfa,hre];rfl
 rw[hwd,hak];show _=tellS d c.kind _ c.keys (ps.map PS.yes) (ps.map PS.val) noB (if d=2 then(a:Int)else 0);rw[tellS_id (id:=if d=2 then(a:Int)else 0) (id':=(a:Int)) (fun h=>if_pos h)];by_cases h1:c.kind=1
 ·obtain⟨b1,b2,b3⟩:=alKeys_get hc h1 hl hv c.keys.length (Nat.le_refl _);have hl1:=A.len1;rw[List.take_length]at b1 b2 b3;rw[←hl,List.take_length]at b1 b2;rw[b1,b2,b3 hl1,if_pos h1]
 ·have hk1:∃key,c.keys=[key]:=by
   have h2:c.keys.length=1:=by
    have:=A.kind;have:=A.one;omega
   exact list1 h2
  obtain⟨key,hkey⟩:=hk1;have hk0:c.keys[0]?=some key:=by rw[hkey];rfl
  have hp0:ps[0]?=some (ps[0]'(by rw[hl,hkey];exact Nat.one_pos)):=List.getElem?_eq_getElem _;obtain⟨st,v,e,hV⟩:=hv 0 _ hp0;obtain⟨y1,_,_⟩:=hV.yes hc hk0;have hps:ps=[.an st v]:=by
   have h3:ps.length=1:=by rw[hl,hkey];rfl
   obtain⟨p,hp⟩:=list1 h3;subst hp;simp at e;rw[e]
  have hz:(alKeys c.kind c.val c.keys ⟨[],[],2,shopE (partsN i cs a)⟩).ak=if c.kind=2 then 2 else if(ps.map PS.yes).headD false=true then 3 else 4:=by
   rw[hkey,hps];show akOf c.kind (doesP c.kind key c.val (shopE (partsN i cs a))).1.1 2=if c.kind=2 then 2 else if PS.yes (.an st v)=true then 3 else 4
   rw[y1];unfold resE akOf;rw[befE_zero,if_neg h1];have:=A.kind;by_cases h2:c.kind=2
   ·rw[if_neg (by omega),if_pos h2]
   ·rw[if_pos (by omega),if_neg h2]
  rw[hz,if_neg h1];have hn1:(if c.kind=2 then(2:Int)else if(ps.map PS.yes).headD false=true then 3 else 4)≠1:=by
   split
   ·omega
   ·split<;>omega
  rw[tellS_pl d c.kind _ c.keys _ _ noB (a:Int) hn1];rw[tellS_pl d c.kind _ c.keys (ps.map PS.yes) _ noB (a:Int) hn1]
end
def plyF (gs:List Int)(css:List (List Cmd)):PlyL:=⟨fun i=>((dOf gs i:Nat):Int),csOf css,fun i=>VF i (csOf css i),fun i l a=>l=(alRun (dOf gs i) 0 ((csOf css i).take a) ([],[])).1,False⟩
theorem plyF_ok {gs:List Int}{css:List (List Cmd)}(h:Saids gs css):PlyLOk (plyF gs css):=by
 refine⟨fun i=>dOf_123 gs i,h.good',fun i=>h.short' i,fun i told a c ps h1 h2 h3 h4=>?_⟩;have h4':told=(alRun (dOf gs i) 0 ((csOf css i).take a) ([],[])).1:=h4;show told++_=(alRun (dOf gs i) 0 ((csOf css i).take (a+1)) ([],[])).1;rw[toldAl (cs:=csOf css i) (i:=i) (h.good' i c (List.mem_of_getElem? h1)) h1 h2 (fun m p hp=>by
  rcases h3 m p hp with e|⟨_,e⟩
  ·exact e
  ·exact e.elim),←h4']
 rfl
variable {es:List En}{j o c:Nat}{e:En}{u:SrvQ}{piece:List UInt8}{s':SvG}
def ansR (es:List En)(j:Nat):Bool×ByteArray:=match es[j]?with
 |some e=>(doesP e.k e.key e.val (shopE (es.take j))).1
 |none=>(false,noB)
def ansE (es:List En)(j:Nat):ByteArray:=ansF (ansR es j).1 (ansR es j).2 j
theorem ansR_some (h:es[j]?=some e):ansR es j=(doesP e.k e.key e.val (shopE (es.take j))).1:=by unfold ansR;rw[h]
theorem ansE_app (h:j<es.length)(t:List En):ansE (es++t) j=ansE es j:=by
 have:ansR (es++t) j=ansR es j:=by
  unfold ansR;rw[List.getElem?_append_left h,List.take_append_of_le_length (by omega)]
 unfold ansE;rw[this]
theorem shopE_small:∀(n:Nat) (es:List En),es.length=n→(∀e∈es,e.val.size≤40)→Small (shopE es)∧(shopE es).length≤n:=by
 intro n;induction n with
 |zero=>intro es h _;rw[List.length_eq_zero_iff.1 h];exact⟨fun p hp=>(by cases hp),Nat.le_refl _⟩
 |succ n ih=>
  intro es h hv;rcases list_snoc es with e|⟨l,x,e⟩
  ·rw[e]at h;cases h
  ·subst e;obtain⟨i1,i2⟩:=ih l (by rw[List.length_append]at h;simpa using h) (fun e he=>hv e (by simp[he]));obtain⟨a1,_,_,a4⟩:=doesP_small (kind:=x.k) (k:=x.key) i1 (hv x (by simp));rw[shopE_snoc];exact⟨a1,by omega⟩
theorem ansR_size (hv:∀e∈es,e.val.size≤40)(j:Nat):(ansR es j).2.size≤40:=by
 unfold ansR;cases h:es[j]?with
 |none=>exact Nat.zero_le _
 |some e=>
  exact(doesP_small (shopE_small _ (es.take j) rfl (fun x hx=>hv x (List.mem_of_mem_take hx))).1 (hv e (List.mem_of_getElem? h))).2.1
theorem doesP_may (k:Int)(key x:ByteArray)(L:List (ByteArray×ByteArray)):(doesP k key x L).1.2=noB∨(k=1∧(doesP k key x L).1.1=true):=by
 unfold doesP;split
 ·split
  ·rename_i h;exact .inr ⟨h,rfl⟩
  ·split
   ·exact .inl rfl
   ·split<;>exact .inl rfl
 ·split<;>exact .inl rfl
theorem own_inj {i:Nat}{s:ByteArray}(h:ownK i s)(k:ownK j s)(hi:i<4)(hj:j<4):i=j:=by
 unfold ownK at h k;rw[h]at k;have:=congrArg UInt8.toNat (Option.some.inj k);rw[ofNat_lt _ (by omega),ofNat_lt _ (by omega)]at this;omega
section
variable {gs:List Int}{css:List (List Cmd)}{sv pt win:Nat}{rest:Nat→List UInt8}{F:Nat→Prop}{Cl:Nat→Nat→Prop}{st:List CliQ×List SrvQ}{L:Nat→List En}{A:Nat→Nat}
theorem JI.ownE (h:JI (plyF gs css) sv pt win rest F Cl st L A)(hs:Saids gs css)(he:e∈L o):e.i<4∧ownK e.i e.key∧e.val.size≤40:=by
 obtain⟨j,hj⟩:=List.mem_iff_getElem?.1 he;obtain⟨_,_,c,c1,_,c3,c4⟩:=h.entry hj;obtain⟨cs,g1,g2⟩:=csOf_mem (List.mem_of_getElem? c1);exact⟨h.lg.c4 o e he,hs.mine _ cs g1 c g2 _ (List.mem_of_getElem? c4),by rw[c3];exact(askable_of (hs.good _ cs g1 c g2).cmd).val40⟩
theorem JI.ansV (h:JI (plyF gs css) sv pt win rest F Cl st L A)(hs:Saids gs css)(he:(L o)[j]?=some e):VF e.i (csOf css e.i) e.n e.m (if(ansR (L o) j).1=true then 0 else 1) (ansR (L o) j).2:=by
 obtain⟨hR,ho,c,c1,c2,c3,c4⟩:=h.entry he;have c1:(csOf css e.i)[e.n]?=some c:=c1;refine⟨c,e.key,c1,c4,?_⟩;have hjl:=(List.getElem?_eq_some_iff.1 he).1;obtain⟨t,ht⟩:=partsN_split (i:=e.i) c1 c4 hR;have e0:(⟨e.i,e.n,e.m,c.kind,e.key,c.val⟩:En)=e:=by rw[←c2,←c3]
 rw[e0]at ht;have hL:L o=(L o).take j++e::(L o).drop (j+1):=by
  rw[←(List.getElem?_eq_some_iff.1 he).2,←List.drop_eq_getElem_cons hjl,List.take_append_drop]
 have hF:(L o).filter (fun x=>decide (x.key=e.key))=(partsN e.i (csOf css e.i) (rdN A st.1 e.i)).filter (fun x=>decide (x.key=e.key)):=by
  have h1:(L o).filter (fun x=>decide (x.key=e.key))=((L o).filter (fun x=>x.i==e.i)).filter (fun x=>decide (x.key=e.key)):=by
   rw[List.filter_filter];refine List.filter_congr (fun x hx=>?_);by_cases hk:x.key=e.key
   ·obtain⟨x1,x2,_⟩:=h.ownE hs hx;obtain⟨y1,y2,_⟩:=h.ownE hs (List.mem_of_getElem? he);rw[hk]at x2;simp[hk,own_inj x2 y2 x1 y1]
   ·simp[hk]
  rw[h1,h.lg.eq (fun hf=>hf) o e.i,List.filter_filter];refine List.filter_congr (fun x hx=>?_);by_cases hk:x.key=e.key
  ·simp[hk,ho]
  ·simp[hk]
 have hcut:((L o).take j).filter (fun x=>decide (x.key=e.key))=(befE e.i (csOf css e.i) e.n e.m).filter (fun x=>decide (x.key=e.key)):=by
  have hn:((L o).filter (fun x=>decide (x.key=e.key))).Nodup:=by rw[hF];exact(partsN_nodup _).filter _
  have eq1:(L o).filter (fun x=>decide (x.key=e.key))=((L o).take j).filter (fun x=>decide (x.key=e.key))++e::((L o).drop (j+1)).filter (fun x=>decide (x.key=e.key)):=by
   conv=>lhs;rw[hL]
   rw[List.filter_append,List.filter_cons,if_pos (by simp)]
  have eq2:(partsN e.i (csOf css e.i) (rdN A st.1 e.i)).filter (fun x=>decide (x.key=e.key))=(befE e.i (csOf css e.i) e.n e.m).filter (fun x=>decide (x.key=e.key))++e::t.filter (fun x=>decide (x.key=e.key)):=by
   rw[ht,List.filter_append,List.filter_cons,if_pos (by simp)]
  refine cut_same (e:=e) (b:=((L o).drop (j+1)).filter (fun x=>decide (x.key=e.key))) (d:=t.filter (fun x=>decide (x.key=e.key))) ?_ ?_
  ·rw[←eq1,hF,eq2]
  ·rw[←eq1];exact hn
 have hd:=does_same (e:=e) hcut;rw[ansR_some he,hd];unfold resE;rw[←c2,←c3];exact⟨rfl,rfl⟩
theorem fa_whole (hs:Saids gs css)(h:JI (plyF gs css) sv pt win rest (fun _=>True) Cl st L A)(hu:st.2[o]?=some u)(he:(L o)[j]?=some e)(hc:¬Cl o j)(hh:u.held++piece=(ansE (L o) j).data.toList):∃L' A',JI (plyF gs css) sv pt win rest (fun _=>True) (fun o' id'=>Cl o' id'∨(o'=o∧id'=j)) (answeredJ sv pt win o piece st) L' A'∧Adv st L A (answeredJ sv pt win o piece st) L' A'∧∀(b:Nat) (v:SrvQ),(answeredJ sv pt win o piece st).2[b]?=some v→∃v0,st.2[b]?=some v0∧v.held=if b=o then []else v0.held:=by
 have hq:=plyF_ok hs;have hl:=(h.frs hq o).2;have hj:=(List.getElem?_eq_some_iff.1 he).1;have hv40:(ansR (L o) j).2.size≤40:=ansR_size (fun x hx=>(h.ownE hs hx).2.2) j;obtain⟨s,x,g1,g2,g3,g4⟩:=h.opn (fun hf=>hf) o j e he hc;cases hf:findP o j st.1 0 with
 |none=>exact absurd rfl (findP_none o j st.1 0 hf s (List.mem_of_getElem? g1) x (List.mem_of_getElem? g3) _ (List.mem_of_getElem? g4))
 |some z=>
  obtain⟨i,k,m⟩:=z;obtain⟨i',s',x',e0,p1,p2,p3⟩:=findP_some o j st.1 0 i k m hf;rw[Nat.zero_add]at e0;subst e0;obtain⟨c,d1,d2,_,d4⟩:=(h.cli i s' p1).1.cm k x' p2;obtain⟨⟨en,n1,n2,n3,n4⟩,_⟩:=d4 m _ p3;rw[he]at n1;cases n1;obtain⟨_,_,c',c1,c2,_,_⟩:=h.entry he;rw[n2,n3]at c1;rw[d1]at c1;cases c1;have hka:kindAt st.1 i k=e.k:=by unfold kindAt;rw[p1];simp only;rw[p2];simp only;rw[c2,d2];rfl
  have hm:mayB (kindAt st.1 i k) ⟨if(ansR (L o) j).1=true then 0 else 1,j,(ansR (L o) j).2,7+(ansR (L o) j).2.size⟩=true:=by
   rw[hka];unfold mayB;rw[Bool.or_eq_true,Bool.and_eq_true,decide_eq_true_eq,decide_eq_true_eq];rw[ansR_some he];rcases doesP_may e.k e.key e.val (shopE ((L o).take j))with f|⟨f1,f2⟩
   ·right;simp only;rw[f];exact emp0
   ·left;exact⟨f1,by simp only;rw[f2];rfl⟩
  have hV:VF i (csOf css i) (A i+k) m (if(ansR (L o) j).1=true then 0 else 1) (ansR (L o) j).2:=by
   have:=h.ansV hs he;rw[n2,n3,n4]at this;exact this
  obtain⟨L',A',k1,k2⟩:=h.an hq (used:=7+(ansR (L o) j).2.size) hu hf hV [];have ea:=answered_whole (sv:=sv) (pt:=pt) (win:=win) hu hv40 (by omega) hh hf hm;rw[ea];refine⟨L',A',k1,k2,fun b v hv=>?_⟩;obtain⟨v1,w1,w2,_⟩:=(runJ_in sv pt win i _).2 b v hv;rcases get_set (show(st.2.set o {u with held:=[]})[b]?=some v1 from w1)with⟨f1,f2⟩|⟨f1,f2⟩
  ·exact⟨u,by rw[f1];exact hu,by rw[w2,f2,if_pos f1]⟩
  ·exact⟨v1,f2,by rw[w2,if_neg f1]⟩
theorem fa_part (hs:Saids gs css)(h:JI (plyF gs css) sv pt win rest (fun _=>True) Cl st L A)(hu:st.2[o]?=some u)(hj:j<(L o).length)(hc:c<(ansE (L o) j).size)(hh:u.held++piece=(ansE (L o) j).data.toList.take c):answeredJ sv pt win o piece st=(st.1,st.2.set o {u with held:=u.held++piece}):=by
 have hl:=(h.frs (plyF_ok hs) o).2;exact answered_part hu (ansR_size (fun x hx=>(h.ownE hs hx).2.2) j) (by omega) (by unfold ansE at hc;rw[ansF_size]at hc;exact hc) hh
end
structure SF (es:List En)(Cl:Nat→Prop)(held:List UInt8)(s:SvG)(b:ByteArray)(rj:Nat)(js:List Nat)(pn:Option Nat):Prop where
 rl:rj≤es.length
 rd:s.rd=((frsE (es.take rj)).flatMap Fr.by_).length
 shop:s.L=shopE (es.take rj)
 made:s.made=js.map (ansE es)
 nd:(js++pn.toList).Nodup
 lt:∀id∈js++pn.toList,id<rj
 opn:∀id,id<es.length→(¬Cl id↔(id∈js++pn.toList∨rj≤id))
 non:pn=none→held=[]∧b=noB
 som:∀j,pn=some j→held++b.data.toList=(ansE es j).data.toList∧b.size≠0
section
variable {es:List En}{Cl Cl':Nat→Prop}{held:List UInt8}{s:SvG}{b:ByteArray}{rj:Nat}{js:List Nat}{pn:Option Nat}
theorem SF.ext (h:SF es Cl held s b rj js pn)(t:List En)(hc:∀id,id<es.length→(Cl' id↔Cl id))(hb:∀id,Cl' id→id<es.length):SF (es++t) Cl' held s b rj js pn:=by
 have hrl:=h.rl;have htk:(es++t).take rj=es.take rj:=List.take_append_of_le_length hrl;have ha:∀j∈js++pn.toList,ansE (es++t) j=ansE es j:=fun j hj=>ansE_app (by have:=h.lt j hj;omega) t
 refine⟨by rw[List.length_append];omega,by rw[htk];exact h.rd,by rw[htk];exact h.shop,?_,h.nd,h.lt,fun id hid=>?_,h.non,fun j hj=>?_⟩
 ·rw[h.made];refine List.map_congr_left (fun j hj=>(ha j (by simp[hj])).symm)
 ·by_cases hl:id<es.length
  ·rw[←h.opn id hl,hc id hl]
  ·constructor
   ·intro _;right;omega
   ·intro _ hC;exact hl (hb id hC)
 ·rw[ha j (by rw[hj];simp)];exact h.som j hj
theorem works_E (es:List En)(M:List ByteArray)(rj:Nat):∀k,rj+k≤es.length→worksP (((frsE es).drop rj).take k) (shopE (es.take rj),M)=(shopE (es.take (rj+k)),M++(List.range' rj k).map (ansE es)):=by
 intro k;induction k with
 |zero=>intro _;simp[worksP]
 |succ k ih=>
  intro hk;have he:es[rj+k]?=some es[rj+k]:=List.getElem?_eq_getElem (by omega);have hf:=frsE_get he;rw[List.take_add_one,List.getElem?_drop,hf];simp only[Option.toList_some]
  rw[worksP_snoc,ih (by omega)];unfold workP;simp only
  rw[show rj+(k+1)=rj+k+1 by omega,List.take_add_one,he];simp only[Option.toList_some]
  rw[shopE_snoc,List.range'_concat,List.map_append];simp only[Nat.one_mul,List.map_cons,List.map_nil,List.append_assoc]
  have e2:ansE es (rj+k)=ansF (doesP es[rj+k].k es[rj+k].key es[rj+k].val (shopE (es.take (rj+k)))).1.1 (doesP es[rj+k].k es[rj+k].key es[rj+k].val (shopE (es.take (rj+k)))).1.2 (rj+k):=by
   unfold ansE;rw[ansR_some he]
  rw[e2]
theorem SF.worked (h:SF es Cl held s b rj js pn)(hr:s'.rd=((frsE es).flatMap Fr.by_).length)(hw:(s'.L,s'.made)=worksP ((frsE es).drop rj) (s.L,s.made)):SF es Cl held s' b es.length (js++List.range' rj (es.length-rj)) pn:=by
 have hrl:=h.rl;have e1:=works_E es s.made rj (es.length-rj) (by omega);rw[List.take_of_length_le (by rw[List.length_drop,frsE_len];exact Nat.le_refl _),show rj+(es.length-rj)=es.length by omega,←h.shop,←hw]at e1;injection e1 with e2 e3;refine⟨Nat.le_refl _,by rw[List.take_length];exact hr,e2,by rw[e3,h.made,List.map_append],?_,fun id hid=>?_,fun id hid=>?_,h.non,h.som⟩
 ·have hnd:=h.nd;rw[List.append_assoc];rw[List.nodup_append]at hnd⊢;obtain⟨n1,n2,n3⟩:=hnd;refine⟨n1,?_,fun a ha b hb e=>?_⟩
  ·rw[List.nodup_append];refine⟨List.nodup_range',n2,fun a ha b hb e=>?_⟩;have:=h.lt b (by simp[hb]);rw[List.mem_range'_1]at ha;omega
  ·rcases List.mem_append.1 hb with hb|hb
   ·have:=h.lt a (by simp[ha]);rw[List.mem_range'_1]at hb;omega
   ·exact n3 a ha b hb e
 ·simp only[List.mem_append,List.mem_range'_1]at hid;rcases hid with(hid|hid)|hid
  ·have:=h.lt id (by simp[hid]);omega
  ·omega
  ·have:=h.lt id (by simp[hid]);omega
 ·rw[h.opn id hid];simp only[List.mem_append,List.mem_range'_1]
  constructor
  ·rintro ((f|f)|f)
   ·exact .inl (.inl (.inl f))
   ·exact .inl (.inr f)
   ·exact .inl (.inl (.inr (by omega)))
  ·rintro (((f|f)|f)|f)
   ·exact .inl (.inl f)
   ·exact .inr (by omega)
   ·exact .inl (.inr f)
   ·exact .inr (by omega)
theorem SF.gave (h:SF es Cl held s b rj js pn)(hp:pn=some j)(hc:∀id,id<es.length→(Cl' id↔(Cl id∨id=j)))(hb:∀id,Cl' id→id<es.length)(t:List En):SF (es++t) Cl' [] s noB rj js none:=by
 have hnd:=h.nd;have hrl:=h.rl;rw[hp]at hnd;have hj:j∉js:=fun hm=>by
  rw[List.nodup_append]at hnd;exact hnd.2.2 j hm j (by simp) rfl
 have h0:SF es Cl' [] s noB rj js none:=by
  refine⟨hrl,h.rd,h.shop,h.made,by simpa using(List.nodup_append.1 hnd).1,fun id hid=>h.lt id (by simp at hid;simp[hid]),fun id hid=>?_,fun _=>⟨rfl,rfl⟩,fun j hj=>(by cases hj)⟩;have hjl:=h.lt j (by rw[hp];simp);have h1:=h.opn id hid;rw[hc id hid];rw[hp]at h1;simp only[Option.toList_some,Option.toList_none,List.append_nil,List.mem_append,List.mem_singleton,not_or]at h1⊢;constructor
  ·rintro ⟨f1,f2⟩;rcases h1.1 f1 with(f|f)|f
   ·exact .inl f
   ·exact absurd f f2
   ·exact .inr f
  ·intro f;refine⟨h1.2 (by rcases f with f|f;exact .inl (.inl f);exact .inr f),fun e=>?_⟩;rcases f with f|f
   ·exact hj (by rw[←e];exact f)
   ·omega
 exact h0.ext t (fun id hid=>Iff.rfl) hb
theorem SF.cut (h:SF es Cl held s b rj js none){k c:Nat}{b':ByteArray}{held':List UInt8}(hk:js[k]?=some j)(hm:s'.made=(js.eraseIdx k).map (ansE es))(hL:s'.L=s.L)(hr:s'.rd=s.rd)(hh:held'++b'.data.toList=(ansE es j).data.toList)(hb:b'.size≠0):SF es Cl held' s' b' rj (js.eraseIdx k) (some j):=by
 have hkl:=(List.getElem?_eq_some_iff.1 hk).1;have hnd:=h.nd;simp at hnd;have hperm:(js.eraseIdx k++[j]).Perm js:=by
  have e1:js=js.take k++j::js.drop (k+1):=by rw[←(List.getElem?_eq_some_iff.1 hk).2,←List.drop_eq_getElem_cons hkl,List.take_append_drop]
  have e2:js.eraseIdx k=js.take k++js.drop (k+1):=List.eraseIdx_eq_take_drop_succ _ _;rw[e2];conv=>rhs;rw[e1]
  rw[List.append_assoc];exact List.Perm.append_left _ (List.perm_append_comm (l₁:=js.drop (k+1)) (l₂:=[j]))
 have hmem:∀id,id∈js.eraseIdx k++[j]↔id∈js:=fun id=>hperm.mem_iff
 refine⟨h.rl,hr.trans h.rd,hL.trans h.shop,hm,hperm.nodup_iff.2 hnd,fun id hid=>h.lt id (by simpa using(hmem id).1 hid),fun id hid=>?_,fun e=>(by cases e),fun i hi=>?_⟩
 ·have:=h.opn id hid;simp only[Option.toList_none,List.append_nil]at this;rw[this];show _↔(id∈js.eraseIdx k++[j]∨_);rw[hmem id]
 ·cases hi;exact⟨hh,hb⟩
end
variable {n c i o rj j:Nat}{u:SrvQ}{s s':SvG}{D':PlD}{piece r:List UInt8}{b:ByteArray}{js':List Nat}
section
variable {w W W':World}{P X sv pt win T:Nat}{st:List CliQ×List SrvQ}{D:PlD}
theorem PlayV.p6 (h:PlayV w W P X sv pt win T st D):W.cell? ⟨P,6,none⟩=some D.v6:=by
 have:=blkCell h.blk 6;simpa using this
theorem PlayV.putByt (h:PlayV w W P X sv pt win T st D){g:Nat}{m:ByteArray}(hv:D.v6= .slice (some ⟨g,0,none⟩) n c)(hn:D.byt.length=n)(hi:i<n):PlayV w (W.setCell ⟨g,i,none⟩ (.string m)) P X sv pt win T st {D with byt:=D.byt.set i m}∧W.frozen? ⟨g,i,none⟩=false:=by
 obtain⟨M,h1,h2,h3⟩:=h;have hr:D.rows[5]?=some ⟨9,D.v6,D.byt.map .string⟩:=rfl;have hrow:=h1.row _ (List.mem_of_getElem? hr);simp only[hv]at hrow;have hl:(D.byt.map Value.string).length=n:=by rw[List.length_map];exact hn
 rw[hl]at hrow;have hst:=World.ownsRow.stored hrow i (.string m);have hxs:(D.byt.map Value.string).set i (.string m)=(D.byt.set i m).map .string:=by rw[List.map_set]
 rw[hxs]at hst;have hl2:((D.byt.set i m).map Value.string).length=n:=by rw[List.length_map,List.length_set];exact hn
 obtain⟨a1,a2,a3⟩:=h1.put hr (g:=g) (n:=n) (cap:=c) (c:=i) hv (xs':=(D.byt.set i m).map .string) (u:= .string m) (by rw[hl2];simp only[hv];exact hst.1);have hF:∀b∈[g],FK P D.rows D.S b:=fun b hb=>by rw[List.mem_singleton.1 hb];exact a3
 refine⟨⟨M,a1,h1.jkeep h2 a2 hF,below_chg h3 h3.size a2 (fun b hb=>(h1.apM b (hF b hb)).2)⟩,?_⟩;obtain⟨cur,hc⟩:=ownsRow_blk hrow rfl;exact blkFree hc i
theorem PlayV.callAnswer (h:PlayV w W P X sv pt win T st D)(hu:st.2[o]?=some u)(hup:u.up=true)(piece:ByteArray)(hT:T+5000≤100000000000)(hl:2*u.held.length+piece.size≤140737488355328):Calls Tryz.prog 32 #[.pointer (some ⟨X,0,none⟩),.int .i64 (o:Int),.string piece] W fun e w'=>e= .returned (.int .i64 0)∧PlayV w w' P X sv pt win T (answeredJ sv pt win o piece.data.toList st) D:=by
 obtain⟨M,h1,h2,h3⟩:=h;refine(answer_pl h2 hu piece hup hT hl).mono ?_;rintro e w' ⟨rfl,a⟩;exact⟨rfl,PlayV.jun ⟨M,h1,a,h3⟩⟩
end
theorem SvK.takes {w w8:World}(h:SvK w s){v':Value}{ms:List ByteArray}(k8:Chg [] w w8)(hown:w8.ownsRow 0 9 1 v' ms.length (ms.map .string))(hnew:∀b,v'.ownBlock=some b→w.heap.size≤b):SvTo w (w8.setCell ⟨s.b,2,none⟩ v') s {s with mv:=v',made:=ms}∧w8.frozen? ⟨s.b,2,none⟩=false∧s.b<w8.heap.size∧w8.cell? ⟨s.b,2,none⟩=some s.mv:=by
 obtain⟨a1,a2,a3⟩:=h.apart;have hb9:w8.heap[s.b]?=some (.cells #[s.sv,.int .i64 (s.rd:Int),s.mv] 68 (0,0)):=k8.keep h.blk (by simp);refine⟨⟨⟨(blkSet (i:=2) hb9 _).trans rfl,ownsRow_other h.rL (fun q hq=>?_),?_⟩,rfl,?_,fun b hb=>?_⟩,blkFree hb9 2,blkLt hb9,blkCell hb9 2⟩
 ·obtain⟨cur,hc⟩:=ownsRow_blk h.rL hq;rw[Below.heap_setCell w8 ⟨s.b,2,none⟩ _ q (fun e=>a1 ((show q=s.b from e)▸hq))];exact k8.block q (blkLt hc) (by simp)
 ·exact ownsRow_other hown (fun q hq=>Below.heap_setCell w8 ⟨s.b,2,none⟩ _ q (fun e=>by
   have h1:=hnew q hq;have h2:=blkLt h.blk;have e2:q=s.b:=e;omega))
 ·exact⟨k8.os,k8.tape,k8.output,by rw[World.size_setCell];exact k8.size,fun b hb hm=>by
   rw[Below.heap_setCell w8 ⟨s.b,2,none⟩ _ b (fun e=>hm (by rw[show b=s.b from e];simp[SvG.foot]))];exact k8.block b hb (by simp)⟩
 ·unfold SvG.foot at hb;rcases List.mem_cons.1 hb with e|e
  ·exact .inl (by rw[e];simp[SvG.foot])
  ·rcases List.mem_append.1 e with e|e
   ·exact .inl (by simp only[SvG.foot,List.mem_cons,List.mem_append];exact .inr (.inl e))
   ·exact .inr (hnew b (mem_own e))
structure FaSt (gs:List Int)(w W:World)(P X sv pt win:Nat)(css:List (List Cmd))(sd:List Nat)(st:List CliQ×List SrvQ)(D:PlD)(L:Nat→List En)(A:Nat→Nat)(Cl:Nat→Nat→Prop):Prop where
 pb:PB gs w W P X sv pt win css sd st D
 ji:JI (plyF gs css) sv pt win (restOf gs css sd) (fun _=>True) Cl st L A
 bl:D.byt.length=sv
 sf:∀(o:Nat) (u:SrvQ) (s:SvG) (b:ByteArray),st.2[o]?=some u→D.S[o]?=some s→D.byt[o]?=some b→∃rj js pn,SF (L o) (Cl o) u.held s b rj js pn
section
variable {gs:List Int}{w W W':World}{P X sv pt win:Nat}{css:List (List Cmd)}{sd:List Nat}{st:List CliQ×List SrvQ}{D:PlD}{L:Nat→List En}{A:Nat→Nat}{Cl:Nat→Nat→Prop}
theorem FaSt.start (h:Bg2 gs w W P X sv pt win css D)(hc:css.length≤4):FaSt gs w W P X sv pt win css (List.replicate css.length 0) (cliOf gs css,List.replicate sv ⟨true,0,[],[]⟩) D (fun _=>[]) (fun _=>0) (fun _ _=>False):=by
 refine⟨h.pb hc,ji_start (q:=plyF gs css) (fun i=>rfl) rfl (fun i=>rfl) (h.pb hc).s14.1 hc,by rw[h.byt];simp,fun o u s b hu hs hb=>⟨0,[],none,?_⟩⟩;have e1:=(List.mem_replicate.1 (List.mem_of_getElem? (show(List.replicate sv (⟨true,0,[],[]⟩:SrvQ))[o]?=some u from hu))).2;obtain⟨b',e2⟩:=h.nS s (List.mem_of_getElem? hs);rw[h.byt]at hb;have e3:=(List.mem_replicate.1 (List.mem_of_getElem? hb)).2;rw[e1,e2,e3];exact⟨Nat.le_refl _,rfl,rfl,rfl,by simp,fun id h=>(by simp at h),fun id h=>(by simp at h),fun _=>⟨rfl,rfl⟩,fun j h=>(by cases h)⟩
theorem FaSt.to (h:FaSt gs w W P X sv pt win css sd st D L A Cl)(k:PlayV w W' P X sv pt win (4000*sd.sum) st D):FaSt gs w W' P X sv pt win css sd st D L A Cl:=⟨h.pb.to k rfl,h.ji,h.bl,h.sf⟩
theorem FaSt.below (h:FaSt gs w W P X sv pt win css sd st D L A Cl)(hb:Below W.heap.size W W'):FaSt gs w W' P X sv pt win css sd st D L A Cl:=h.to (h.pb.pl.below hb)
theorem FaSt.at_ (h:FaSt gs w W P X sv pt win css sd st D L A Cl)(ho:o<sv):∃u s b rj js pn,st.2[o]?=some u∧u.up=true∧D.S[o]?=some s∧D.byt[o]?=some b∧SF (L o) (Cl o) u.held s b rj js pn:=by
 obtain⟨u,hu,hup⟩:=h.ji.up (fun hf=>hf) o ho;have hs:D.S[o]?=some (D.S[o]'(by rw[h.pb.lS];exact ho)):=List.getElem?_eq_getElem _;have hb:D.byt[o]?=some (D.byt[o]'(by rw[h.bl];exact ho)):=List.getElem?_eq_getElem _;obtain⟨rj,js,pn,hf⟩:=h.sf o u _ _ hu hs hb;exact⟨u,_,_,rj,js,pn,hu,hup,hs,hb,hf⟩
theorem PB.saysD (h:PB gs w W P X sv pt win css sd st D)(hn:sd[i]?=some n)(hr:restOf gs css sd i=piece++r)(k:PlayV w W' P X sv pt win (4000*sd.sum+4000*piece.length) (saidJ sv pt win i piece st) D')(e1:D'.S=D.S)(e2:D'.txt=D.txt)(e3:D'.wnt=D.wnt):PB gs w W' P X sv pt win css (sd.set i (n+piece.length)) (saidJ sv pt win i piece st) D':=by
 have hlen:n+piece.length≤(txI gs css i).length:=by
  have h1:=congrArg List.length hr;unfold restOf at h1;rw[hn,List.length_drop,List.length_append]at h1;have h2:=h.sle i n hn;simp at h1;omega
 refine⟨?_,(saidJ_len _ _ _ _ _ _).trans h.cl,by rw[e1];exact h.lS,e2.trans h.txt,e3.trans h.wnt,by rw[List.length_set];exact h.lsd,fun j m hm=>?_,h.c4,h.said⟩
 ·rw[sum_set sd i n piece.length hn,Nat.mul_add];exact k
 ·rcases get_set hm with⟨e1,e2⟩|⟨e1,e2⟩
  ·rw[e1,e2];exact hlen
  ·exact h.sle j m e2
theorem sf_more {L':Nat→List En}{Cl':Nat→Nat→Prop}(h:∀(o:Nat) (u:SrvQ) (s:SvG) (b:ByteArray),st.2[o]?=some u→D.S[o]?=some s→D.byt[o]?=some b→∃rj js pn,SF (L o) (Cl o) u.held s b rj js pn)(hx:Ext L L')(hcb:∀o id,Cl o id→id<(L o).length){u':SrvQ}(hu:st.2[o]?=some u)(hh:u'.held=u.held)(hs:D.S[o]?=some s)(hb:D.byt[o]?=some b)(hc:∀id,Cl' o id↔Cl o id):∃rj js pn,SF (L' o) (Cl' o) u'.held s b rj js pn:=by
 obtain⟨rj,js,pn,hf⟩:=h o u s b hu hs hb;obtain⟨t,ht⟩:=hx o;refine⟨rj,js,pn,?_⟩;rw[ht,hh];exact hf.ext t (fun id _=>hc id) (fun id hC=>hcb o id ((hc id).1 hC))
theorem FaSt.said (h:FaSt gs w W P X sv pt win css sd st D L A Cl)(hn:sd[i]?=some n)(hr:restOf gs css sd i=piece++r)(k:PlayV w W' P X sv pt win (4000*sd.sum+4000*piece.length) (saidJ sv pt win i piece st) D')(e1:D'.S=D.S)(e2:D'.txt=D.txt)(e3:D'.wnt=D.wnt)(e4:D'.byt=D.byt):∃L' A',FaSt gs w W' P X sv pt win css (sd.set i (n+piece.length)) (saidJ sv pt win i piece st) D' L' A' Cl:=by
 obtain⟨L',A',j1,j2⟩:=h.ji.said (plyF_ok h.pb.said) hr;rw[rest_set hn hr]at j1;refine⟨L',A',h.pb.saysD hn hr k e1 e2 e3,j1,by rw[e4];exact h.bl,fun o u' s b hu' hs hb=>?_⟩;rw[e1]at hs;rw[e4]at hb;have hin:SameIn st.2 (saidJ sv pt win i piece st).2:=by
  unfold saidJ;split
  ·exact SameIn.refl _
  ·exact runJ_in sv pt win i (st.1.set i (tookQ _ piece),st.2)
 obtain⟨u,hu,hh,_⟩:=hin.2 o u' hu';exact sf_more h.sf j2.ext h.ji.clb hu hh hs hb (fun id=>Iff.rfl)
theorem FaSt.worked (h:FaSt gs w W P X sv pt win css sd st D L A Cl){js:List Nat}{pn:Option Nat}(hu:st.2[o]?=some u)(hs:D.S[o]?=some s)(hb:D.byt[o]?=some b)(hf:SF (L o) (Cl o) u.held s b rj js pn)(ht:SvTo W W' s s')(hr:s'.rd=((frsE (L o)).flatMap Fr.by_).length)(hw:(s'.L,s'.made)=worksP ((frsE (L o)).drop rj) (s.L,s.made)):FaSt gs w W' P X sv pt win css sd st {D with S:=D.S.set o s'} L A Cl∧(D.S.set o s')[o]?=some s'∧SF (L o) (Cl o) u.held s' b (L o).length (js++List.range' rj ((L o).length-rj)) pn:=by
 have hol:=(List.getElem?_eq_some_iff.1 hs).1;have hf':=hf.worked hr hw;refine⟨⟨h.pb.withD (h.pb.pl.served hs ht) (by simp) rfl rfl,h.ji,h.bl,fun o' u' s2 b' hu' hs' hb'=>?_⟩,List.getElem?_set_self hol,hf'⟩;rcases get_set (show(D.S.set o s')[o']?=some s2 from hs')with⟨e1,e2⟩|⟨e1,e2⟩
 ·subst e1;rw[hu]at hu';cases hu';have hb2:D.byt[o']?=some b':=hb';rw[hb]at hb2;cases hb2;rw[e2];exact⟨_,_,_,hf'⟩
 ·exact h.sf o' u' s2 b' hu' e2 hb'
theorem FaSt.whole (h:FaSt gs w W P X sv pt win css sd st D L A Cl)(hu:st.2[o]?=some u)(hs:D.S[o]?=some s)(hb:D.byt[o]?=some b)(hj:j<(L o).length)(hc:¬Cl o j)(hh:u.held++piece=(ansE (L o) j).data.toList){hd:List UInt8}{bb:ByteArray}(hf:SF (L o) (Cl o) hd s' bb rj js' (some j))(k:PlayV w W' P X sv pt win (4000*sd.sum) (answeredJ sv pt win o piece st) D')(e1:D'.S=D.S.set o s')(e2:D'.txt=D.txt)(e3:D'.wnt=D.wnt)(e4:D'.byt=D.byt.set o noB):∃st' L' A' Cl' u',st'=answeredJ sv pt win o piece st∧FaSt gs w W' P X sv pt win css sd st' D' L' A' Cl'∧Adv st L A st' L' A'∧(∀o id,Cl o id→Cl' o id)∧st'.2[o]?=some u'∧SF (L' o) (Cl' o) u'.held s' noB rj js' none:=by
 obtain⟨e,he⟩:∃e,(L o)[j]?=some e:=⟨_,List.getElem?_eq_getElem hj⟩
 obtain⟨L',A',j1,j2,j3⟩:=fa_whole h.pb.said h.ji hu he hc hh;have hol:=(List.getElem?_eq_some_iff.1 hs).1;have hbl:=(List.getElem?_eq_some_iff.1 hb).1;have hon:o<(answeredJ sv pt win o piece st).2.length:=by
  rw[j1.len,←h.pb.lS];exact hol
 obtain⟨u',hu'⟩:∃u',(answeredJ sv pt win o piece st).2[o]?=some u':=⟨_,List.getElem?_eq_getElem hon⟩
 have hh':u'.held=[]:=by
  obtain⟨v0,_,hv⟩:=j3 o u' hu';rw[hv,if_pos rfl]
 obtain⟨t,ht⟩:=j2.ext o;have hfo:SF (L' o) (fun id=>Cl o id∨(o=o∧id=j)) u'.held s' noB rj js' none:=by
  rw[hh',ht];exact hf.gave rfl (fun id _=>by simp) (fun id hC=>by rcases hC with e|⟨_,e⟩;exact h.ji.clb o id e;rw[e];exact hj) t
 refine⟨_,L',A',_,u',rfl,⟨?_,j1,by rw[e4,List.length_set];exact h.bl,fun o' v s2 b' hv hs2 hb2=>?_⟩,j2,fun o' id hC=> .inl hC,hu',hfo⟩
 ·exact⟨k,(answeredJ_len _ _ _ _ _ _).trans h.pb.cl,by rw[e1,List.length_set];exact h.pb.lS,e2.trans h.pb.txt,e3.trans h.pb.wnt,h.pb.lsd,h.pb.sle,h.pb.c4,h.pb.said⟩
 ·rw[e1]at hs2;rw[e4]at hb2;by_cases ho:o'=o
  ·subst ho;rw[hu']at hv;cases hv;rw[List.getElem?_set_self hol]at hs2;cases hs2;rw[List.getElem?_set_self hbl]at hb2;cases hb2;exact⟨_,_,_,hfo⟩
  ·rw[List.getElem?_set_ne (fun e=>ho e.symm)]at hs2 hb2;obtain⟨v0,w1,w2⟩:=j3 o' v hv;rw[if_neg ho]at w2;exact sf_more (Cl':=fun o' id'=>Cl o' id'∨(o'=o∧id'=j)) h.sf j2.ext h.ji.clb w1 w2 hs2 hb2 (fun id=>by
    constructor
    ·rintro (f|⟨f,_⟩)
     ·exact f
     ·exact absurd f ho
    ·exact .inl)
theorem FaSt.part (h:FaSt gs w W P X sv pt win css sd st D L A Cl){b':ByteArray}(hu:st.2[o]?=some u)(hs:D.S[o]?=some s)(hb:D.byt[o]?=some b)(hj:j<(L o).length)(hc:c<(ansE (L o) j).size)(hh:u.held++piece=(ansE (L o) j).data.toList.take c)(hf:SF (L o) (Cl o) (u.held++piece) s' b' rj js' (some j))(k:PlayV w W' P X sv pt win (4000*sd.sum) (answeredJ sv pt win o piece st) D')(e1:D'.S=D.S.set o s')(e2:D'.txt=D.txt)(e3:D'.wnt=D.wnt)(e4:D'.byt=D.byt.set o b'):∃st',FaSt gs w W' P X sv pt win css sd st' D' L A Cl:=by
 have ea:=fa_part h.pb.said h.ji hu hj hc hh;have hol:=(List.getElem?_eq_some_iff.1 hs).1;have hbl:=(List.getElem?_eq_some_iff.1 hb).1;have hul:=(List.getElem?_eq_some_iff.1 hu).1;rw[ea]at k;refine⟨_,⟨k,h.pb.cl,by rw[e1,List.length_set];exact h.pb.lS,e2.trans h.pb.txt,e3.trans h.pb.wnt,h.pb.lsd,h.pb.sle,h.pb.c4,h.pb.said⟩,h.ji.held hu _,by rw[e4,List.length_set];exact h.bl,fun o' v s2 b2 hv hs2 hb2=>?_⟩;rw[e1]at hs2;rw[e4]at hb2;have hv':(st.2.set o {u with held:=u.held++piece})[o']?=some v:=hv;by_cases ho:o'=o
 ·subst ho;rw[List.getElem?_set_self hul]at hv';cases hv';rw[List.getElem?_set_self hol]at hs2;cases hs2;rw[List.getElem?_set_self hbl]at hb2;cases hb2;exact⟨_,_,_,hf⟩
 ·rw[List.getElem?_set_ne (fun e=>ho e.symm)]at hs2 hb2 hv';exact h.sf o' v s2 b2 hv' hs2 hb2
end
set_option maxHeartbeats 4000000
set_option maxRecDepth 100000
variable {n:Nat}{s:SvG}{b:ByteArray}
section
variable {gs:List Int}{w W W':World}{P X sv pt win:Nat}{css:List (List Cmd)}{sd:List Nat}{st:List CliQ×List SrvQ}{D:PlD}{L:Nat→List En}{A:Nat→Nat}{Cl:Nat→Nat→Prop}
theorem FaSt.frm (h:FaSt gs w W P X sv pt win css sd st D L A Cl):∃g1 c1 g6 c6,D.v1= .slice (some ⟨g1,0,none⟩) sv c1∧D.v6= .slice (some ⟨g6,0,none⟩) sv c6∧sv≤c1∧sv≤c6:=by
 have h0:0<sv:=h.pb.s14.1;obtain⟨s,g1,c1,_,e1,_,_⟩:=h.pb.srv h0;obtain⟨g6,c6,e6,f6,_,_⟩:=h.pb.pl.cellsAt (i:=5) (n:=sv) (j:=0) (u:= .string (D.byt[0]'(by rw[h.bl];exact h0))) rfl (by show(D.byt.map _).length=_;rw[List.length_map];exact h.bl) (by show(D.byt.map _)[0]?=_;rw[List.getElem?_map,List.getElem?_eq_getElem (by rw[h.bl];exact h0)];rfl);obtain⟨a,c,e,f⟩:=h.pb.v1;rw[e1]at e;cases e;exact⟨g1,c1,g6,c6,e1,e6,f,f6⟩
theorem FaSt.cel (h:FaSt gs w W P X sv pt win css sd st D L A Cl)(hn:n<sv)(hs:D.S[n]?=some s)(hb:D.byt[n]?=some b){g1 c1 g6 c6:Nat}(e1:D.v1= .slice (some ⟨g1,0,none⟩) sv c1)(e6:D.v6= .slice (some ⟨g6,0,none⟩) sv c6):(W.cell? ⟨P,0,none⟩=some (.pointer (some ⟨X,0,none⟩))∧W.cell? ⟨P,1,none⟩=some (.slice (some ⟨g1,0,none⟩) sv c1)∧W.cell? ⟨P,6,none⟩=some (.slice (some ⟨g6,0,none⟩) sv c6)∧W.cell? ⟨g1,n,none⟩=some (.pointer (some ⟨s.b,0,none⟩))∧W.cell? ⟨g6,n,none⟩=some (.string b)∧W.cell? ⟨s.b,2,none⟩=some s.mv)∧P<W.heap.size∧g1<W.heap.size∧g6<W.heap.size∧s.b<W.heap.size:=by
 obtain⟨p0,p1,_,_,_,pl⟩:=h.pb.pl.pc;have p6:=h.pb.pl.p6;rw[e1]at p1;rw[e6]at p6;obtain⟨s2,g,c,hs2,ev,hgl,hgc⟩:=h.pb.srv hn;rw[hs]at hs2;cases hs2;rw[e1]at ev;cases ev;obtain⟨g6',c6',ev6,_,hl6,hc6⟩:=h.pb.pl.cellsAt (i:=5) (n:=sv) (j:=n) (u:= .string b) rfl (by show(D.byt.map _).length=_;rw[List.length_map];exact h.bl) (by show(D.byt.map _)[n]?=_;rw[List.getElem?_map,hb];rfl);change D.v6=_ at ev6;rw[e6]at ev6;cases ev6;obtain⟨M,q1,_,_⟩:=h.pb.pl;have hk:=q1.srv s (List.mem_of_getElem? hs);have k2:=blkCell hk.blk 2;simp at k2;exact⟨⟨p0,p1,p6,hgc,hc6,k2⟩,pl,hgl,hl6,blkLt hk.blk⟩
theorem FaSt.svk (h:FaSt gs w W P X sv pt win css sd st D L A Cl)(hs:D.S[n]?=some s):SvK W s:=by
 obtain⟨M,q1,_,_⟩:=h.pb.pl;exact q1.srv s (List.mem_of_getElem? hs)
def WkTo (gs:List Int)(w W':World)(P X sv pt win:Nat)(css:List (List Cmd))(sd:List Nat)(st:List CliQ×List SrvQ)(D:PlD)(L:Nat→List En)(A:Nat→Nat)(Cl:Nat→Nat→Prop)(n:Nat):Prop:=∃s' b u js pn,FaSt gs w W' P X sv pt win css sd st {D with S:=D.S.set n s'} L A Cl∧(D.S.set n s')[n]?=some s'∧D.byt[n]?=some b∧st.2[n]?=some u∧SF (L n) (Cl n) u.held s' b (L n).length js pn
theorem FaSt.callWorks (h:FaSt gs w W P X sv pt win css sd st D L A Cl){u:SrvQ}{rj:Nat}{js:List Nat}{pn:Option Nat}(hu:st.2[n]?=some u)(hs:D.S[n]?=some s)(hb:D.byt[n]?=some b)(hf:SF (L n) (Cl n) u.held s b rj js pn):Calls Tryz.prog 31 #[.pointer (some ⟨s.b,0,none⟩),.string (mkB u.sent)] W fun e w'=>e= .returned (.bool true)∧WkTo gs w w' P X sv pt win css sd st D L A Cl n:=by
 obtain⟨f1,f2⟩:=h.ji.frs (plyF_ok h.pb.said) n;have hrl:=hf.rl;have hv:∀e∈L n,e.val.size≤40:=fun e he=>(h.ji.ownE h.pb.said he).2.2
 have hsm:=shopE_small _ ((L n).take rj) rfl (fun e he=>hv e (List.mem_of_mem_take he));rw[List.length_take,Nat.min_eq_left hrl,←hf.shop]at hsm;have hjs:js.length≤rj:=by
  have h1:=nodup_sub js (List.range rj) (List.nodup_append.1 hf.nd).1 (fun x hx=>List.mem_range.2 (hf.lt x (by simp[hx])));rw[List.length_range]at h1;exact h1
 have hml:s.made.length=js.length:=by rw[hf.made,List.length_map]
 have hmz:∀m∈s.made,m.size≤47:=fun m hm=>by
  rw[hf.made]at hm;obtain⟨j,_,rfl⟩:=List.mem_map.1 hm;unfold ansE;rw[ansF_size];have:=ansR_size hv j;omega
 obtain⟨s1,s2⟩:=h.ji.sr n u hu;have hsz:(mkB u.sent).size=u.sent.length:=mk_size _;have hT:(mkB u.sent).data.toList=(frsE ((L n).take rj)).flatMap Fr.by_++((frsE (L n)).drop rj).flatMap Fr.by_:=by
  have e0:frsE ((L n).take rj)=(frsE (L n)).take rj:=by
   refine List.ext_getElem? (fun j=>?_);unfold frsE;rw[List.getElem?_mapIdx,List.getElem?_take,List.getElem?_take];split
   ·rw[List.getElem?_mapIdx]
   ·rfl
  rw[e0,←List.flatMap_append,List.take_append_drop,←s1];simp[mkB]
 have hfd:FrsOk ((frsE (L n)).drop rj):=fun f hf=>f1 f (List.mem_of_mem_drop hf)
 have hdl:((frsE (L n)).drop rj).length≤800:=by rw[List.length_drop,frsE_len];omega
 have hul:=h.pb.pl.sizes.2 u (List.mem_of_getElem? hu);have hsum:=h.pb.sum;refine(works_any s ((frsE ((L n).take rj)).flatMap Fr.by_) ((frsE (L n)).drop rj) (mkB u.sent) W (h.svk hs) hfd hT hf.rd ⟨hsm.1,hmz⟩ (by omega) (by omega) (by omega)).mono ?_;rintro e w' ⟨rfl,s',a1,a2,a3⟩;obtain⟨k1,k2,k3⟩:=h.worked hu hs hb hf a1 (by rw[a2,hsz,s1]) a3;exact⟨rfl,s',b,u,_,pn,k1,k2,hb,hu,k3⟩
theorem step_work (h:FaSt gs w W P X sv pt win css sd st D L A Cl)(x y:Int)(hx:(Lit.int .i64 x).wf=true):Calls Tryz.prog 25 #[.pointer (some ⟨P,0,none⟩),.agg #[.int .i64 2,.int .i64 x,.int .i64 y]] W fun e w'=>e= .returned (.bool true)∧WkTo gs w w' P X sv pt win css sd st D L A Cl (pickN x sv):=by
 obtain⟨hs1,hs4⟩:=h.pb.s14;obtain⟨g1,c1,g6,c6,e1,e6,f1,f6⟩:=h.frm;have HPk:=hide' (fun W=>pick_big x sv W hx (by omega) (by omega));have hn1:=pickN_lt x sv (by omega);generalize pickN x sv=n1 at*;have hn1':(n1:Int)<(sv:Int):=by omega
 obtain⟨u,s,b,rj,js,pn,hu,hup,hS,hB,hF⟩:=h.at_ hn1;obtain⟨⟨p0,p1,p6,k1,k6,k2⟩,pl,l1,l6,lb⟩:=h.cel hn1 hS hB e1 e6;have HH:=hide' h;have HX:=hide' (And.intro hu (And.intro hS (And.intro hB (And.intro hF (And.intro e1 e6)))));clear h hu hS hB hF e1 e6 p6 k6 k2 l6 lb;go_enter Tryz.func25,Tryz.ntmps25;go_wp2_with fail
 go_quiet ((go_at_call 17;exact Calls.quiet_of_same (HPk.out _)))
 have hbW:Below W.heap.size W ((W.alloc (.cells #[.int .i64 2,.int .i64 x,.int .i64 y] 52)).drewN nq):=below_drewN ((Below.refl _ _).alloc (Nat.le_refl _) _) _;have q0:((W.alloc (.cells #[.int .i64 2,.int .i64 x,.int .i64 y] 52)).drewN nq).cell? ⟨W.heap.size,0,none⟩=some (.int .i64 2):=by simp
 have ql:W.heap.size<((W.alloc (.cells #[.int .i64 2,.int .i64 x,.int .i64 y] 52)).drewN nq).heap.size:=by show W.heap.size<(W.alloc _).heap.size;simp
 generalize (W.alloc (.cells #[.int .i64 2,.int .i64 x,.int .i64 y] 52)).drewN nq=W2 at*;have HH2:=hide' (HH.out.below hbW);clear hbW HH HPk p0 p1 k1 pl l1;obtain⟨⟨p0,p1,_,k1,_,_⟩,pl,l1,_,_⟩:=HH2.out.cel hn1 HX.out.2.1 HX.out.2.2.1 HX.out.2.2.2.2.1 HX.out.2.2.2.2.2;generalize W.heap.size=B at*;have HSe:=hide' (HH2.out.pb.pl.callSent HX.out.1);go_wp2_with fail
 go_at_call 30;refine HSe.out.mono ?_;rintro e w3 ⟨rfl,h3⟩;have HH3:=hide' (HH2.out.to h3);have HWk:=hide' (HH3.out.callWorks HX.out.1 HX.out.2.1 HX.out.2.2.1 HX.out.2.2.2.1);clear h3 HSe HH2 HH3 p0 p1 k1 pl l1 q0 ql;generalize mkB u.sent=tx at*;go_wp2_with fail
 go_at_call 31;refine HWk.out.mono ?_;rintro e w4 ⟨rfl,h4⟩;have HE:=hide' h4;clear h4 HWk;go_wp2_with fail
 go_ret;exact⟨rfl,HE.out⟩
end
end Go.Proofs.YtlonjggfnleolaaGreatDoor
