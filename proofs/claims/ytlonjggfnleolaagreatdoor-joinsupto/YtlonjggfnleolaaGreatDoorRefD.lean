import Derived.Test.YtlonjggfnleolaaGreatDoorDecode
import Derived.Deep.DeepCutAuto
import Derived.Deep.CutBlock
namespace Go.Proofs.YtlonjggfnleolaaGreatDoor
open Go.RowKit
set_option linter.unusedVariables false
set_option maxHeartbeats 4000000
set_option maxRecDepth 20000
variable {w W:World}{i:Int}{x v wd:ByteArray}{R C g lo:Nat}{c:Cmd}{kv:Value}{ks:List ByteArray}{f:Bool}
theorem texts_cell {T cap i:Nat}{ss:List ByteArray}(h:TextsAt w T cap ss)(hx:ss[i]?=some x):w.cell? ⟨T,i,none⟩=some (.string x):=by
 obtain⟨Z,hZ,_,_,hi⟩:=h;rw[blkCell hZ i];exact hi i x hx
theorem set6 (h:Below w.heap.size w W)(hR:w.heap.size≤R)(a b c d e f:Value):Below w.heap.size w ((((((W.setCell ⟨R,0,none⟩ a).setCell ⟨R,1,none⟩ b).setCell ⟨R,2,none⟩ c).setCell ⟨R,3,none⟩ d).setCell ⟨R,4,none⟩ e).setCell ⟨R,5,none⟩ f):=
 ((((((h.setCell hR _).setCell hR _).setCell hR _).setCell hR _).setCell hR _).setCell hR _)
theorem set6_other {k:Nat}(hk:k≠R)(a b c d e f:Value):((((((w.setCell ⟨R,0,none⟩ a).setCell ⟨R,1,none⟩ b).setCell ⟨R,2,none⟩ c).setCell ⟨R,3,none⟩ d).setCell ⟨R,4,none⟩ e).setCell ⟨R,5,none⟩ f).heap[k]?=w.heap[k]?:=by
 rw[Below.heap_setCell _ _ _ _ hk,Below.heap_setCell _ _ _ _ hk,Below.heap_setCell _ _ _ _ hk,Below.heap_setCell _ _ _ _ hk,Below.heap_setCell _ _ _ _ hk,Below.heap_setCell _ _ _ _ hk]
def zCmdO:Obj:= .cells #[.int .i64 0,.slice none 0 0,.string ⟨#[]⟩,.string ⟨#[]⟩,.bool false,.int .i64 0] 36 (0,0)
theorem zres (h:Below (w.heap.size+1) (w.alloc (.cells #[.int .i64 0,.slice none 0 0,.string ⟨#[]⟩,.string ⟨#[]⟩,.bool false,.int .i64 0] 36)) W):CCells W w.heap.size 0 (.slice none 0 0) ⟨#[]⟩∧w.heap.size<W.heap.size∧Below w.heap.size w W:=by
 have h1:W.heap[w.heap.size]?=_:=(h.block _ (by omega)).trans (blkNew w _);exact⟨ccells_of h1,blkLt h1,((Below.refl _ _).alloc (Nat.le_refl _) _).trans (h.mono (by omega))⟩
theorem splitL_sizes' (l:List UInt8):∀x∈splitL l,x.length≤l.length:=by
 induction l with
 |nil=>simp[splitL]
 |cons b l ih=>
  intro x hx;rw[splitL]at hx;split at hx
  ·rcases List.mem_cons.1 hx with rfl|h
   ·simp
   ·have:=ih x h;simp;omega
  ·split at hx
   ·rename_i h t e;rcases List.mem_cons.1 hx with rfl|h2
    ·have:=ih h (by rw[e];simp);simp;omega
    ·have:=ih x (by rw[e];simp[h2]);simp;omega
   ·simp at hx;rw[hx];simp
theorem words_size (l:List UInt8):∀x∈wordsOf l,x.size≤l.length:=by
 intro x hx;obtain⟨y,hy,rfl⟩:=List.mem_map.1 hx;have:=splitL_sizes' l y hy;show y.toArray.size≤_;simpa using this
theorem refline_none (s:ByteArray)(w:World)(hs:s.size≤1000000000000)(hn:¬0≤Go.Lib.indexByte s.data.toList 10):Calls Tryz.prog 171 #[.string s] w fun e w'=>RefOut w w' (if 60<s.size then some ⟨wrongC longB false,61,true⟩else none) e∧Below w.heap.size w w':=by
 have HE:=hide' (fun W=>refend_any s W (by unfold maxLen;omega));generalize Go.Lib.indexByte s.data.toList 10=ix at*;have hn':ix<0:=by omega
 by_cases h60:60<s.size
 ·rw[if_pos h60];have h60':(60:Int)<s.size:=by omega
  go_enter Tryz.func171,Tryz.ntmps171;go_wp2_with (go_at_call 181;refine(HE.out _).mono ?_;rintro e w1 ⟨rfl,rfl⟩)
  go_at_call 182;refine(refwrong_any _ _ _).mono ?_;rintro e w2 ⟨rfl,hb2⟩;obtain⟨⟨⟨r0,r1,r2,r3,r4,r5⟩,rf⟩,hz,hB⟩:=zres (by simpa using hb2);have HB:=hide' hB;clear hb2 hB;unfold wrongV;go_wp2;refine bodyPost_ret (v:= .tuple #[wrongV longB false,.int .i64 2]) (by simp[results,Tryz.results171,go_sem,wrongV,longB,r0,r1,r2,r3,r4,r5]) rfl ⟨⟨.slice none 0 0,rfl,.inl ⟨rfl,rfl⟩⟩,?_⟩;exact set6 HB.out (Nat.le_refl _) _ _ _ _ _ _
 ·rw[if_neg h60];have h60':¬(60:Int)<s.size:=by omega
  go_enter Tryz.func171,Tryz.ntmps171;go_wp2_with (go_at_call 181;refine(HE.out _).mono ?_;rintro e w1 ⟨rfl,rfl⟩)
  refine bodyPost_ret (v:= .tuple #[zCmdV,.int .i64 0]) (by simp[results,Tryz.results171,go_sem,zCmdV]) rfl ⟨rfl,?_⟩;repeat(first|with_reducible exact Below.refl _ _|with_reducible refine Below.drew ?_|with_reducible refine Below.alloc ?_ (by simp;try omega) _|with_reducible refine Below.setCell ?_ (by simp;try omega) _)
structure CmdAt (w W:World)(C:Nat)(c:Cmd)(kv:Value):Prop where
 at_:W.heap[C]?=some (.cells #[.int .i64 c.kind,kv,.string c.val,.string c.word,.bool c.fatal,.int .i64 c.id] 36 (0,0))
 res:W.heap[w.heap.size]?=some zCmdO
 gt:w.heap.size<C
 keys:KeysR W w.heap.size kv c.keys
 below:Below w.heap.size w W
structure CCellsR (W:World)(C:Nat)(c:Cmd)(kv:Value):Prop where
 all:W.cell? ⟨C,0,none⟩=some (.int .i64 c.kind)∧W.cell? ⟨C,1,none⟩=some kv∧W.cell? ⟨C,2,none⟩=some (.string c.val)∧W.cell? ⟨C,3,none⟩=some (.string c.word)∧W.cell? ⟨C,4,none⟩=some (.bool c.fatal)∧W.cell? ⟨C,5,none⟩=some (.int .i64 c.id)
 free:∀i,W.frozen? ⟨C,i,none⟩=false
theorem CmdAt.cells (h:CmdAt w W C c kv):CCellsR W C c kv∧C<W.heap.size∧CCells W w.heap.size 0 (.slice none 0 0) ⟨#[]⟩∧w.heap.size<W.heap.size:=
 ⟨⟨⟨blkCell h.at_ 0,blkCell h.at_ 1,blkCell h.at_ 2,blkCell h.at_ 3,blkCell h.at_ 4,blkCell h.at_ 5⟩,blkFree h.at_⟩,blkLt h.at_,ccells_of h.res,blkLt h.res⟩
theorem CmdAt.later {W':World}(h:CmdAt w W C c kv)(hb:Below W.heap.size W W'):CmdAt w W' C c kv:=
 ⟨(hb.block _ (blkLt h.at_)).trans h.at_,(hb.block _ (blkLt h.res)).trans h.res,h.gt,h.keys.other (Nat.le_refl _) (fun b Z hZ _=>hb.block _ (blkLt hZ)),h.below.trans (hb.mono h.below.size)⟩
theorem CmdAt.fin (h:CmdAt w W C c kv)(a b d e f g:Value):Below w.heap.size w ((((((W.setCell ⟨w.heap.size,0,none⟩ a).setCell ⟨w.heap.size,1,none⟩ b).setCell ⟨w.heap.size,2,none⟩ d).setCell ⟨w.heap.size,3,none⟩ e).setCell ⟨w.heap.size,4,none⟩ f).setCell ⟨w.heap.size,5,none⟩ g)∧KeysR ((((((W.setCell ⟨w.heap.size,0,none⟩ a).setCell ⟨w.heap.size,1,none⟩ b).setCell ⟨w.heap.size,2,none⟩ d).setCell ⟨w.heap.size,3,none⟩ e).setCell ⟨w.heap.size,4,none⟩ f).setCell ⟨w.heap.size,5,none⟩ g) w.heap.size kv c.keys:=
 ⟨set6 h.below (Nat.le_refl _) _ _ _ _ _ _,h.keys.other (Nat.le_refl _) (fun b Z hZ _=>set6_other (fun e=>by subst e;rw[h.res]at hZ;cases hZ) _ _ _ _ _ _)⟩
theorem CmdAt.kind {k0:Int}(h:CmdAt w W C ⟨k0,ks,v,wd,f,i⟩ kv)(k:Int):CmdAt w (W.setCell ⟨C,0,none⟩ (.int .i64 k)) C ⟨k,ks,v,wd,f,i⟩ kv:=
 ⟨(blkSet (i:=0) h.at_ _).trans rfl,(Below.heap_setCell _ _ _ _ (by have:=h.gt;show _≠C;omega)).trans h.res,h.gt,h.keys.other (Nat.le_refl _) (fun b Z hZ _=>Below.heap_setCell _ _ _ _ (fun e=>by
  rw[show b=C from e,h.at_]at hZ;cases hZ)),h.below.setCell (p:=⟨C,0,none⟩) (Nat.le_of_lt h.gt) _⟩
theorem CmdAt.mk' {k:Int}(hR:W.heap[w.heap.size]?=some zCmdO)(hk:KeysR W w.heap.size kv ks)(hB:Below w.heap.size w W):CmdAt w (W.alloc (.cells #[.int .i64 k,kv,.string v,.string wd,.bool f,.int .i64 i] 36)) W.heap.size ⟨k,ks,v,wd,f,i⟩ kv:=
 ⟨blkNew W _,(Below.heap_alloc _ _ _ (blkLt hR)).trans hR,blkLt hR,hk.other (Nat.le_refl _) (fun b Z hZ _=>Below.heap_alloc _ _ _ (blkLt hZ)),hB.alloc hB.size _⟩
theorem keysR_tail {c:Nat}{xs:List ByteArray}(h:TextsAt W g c (x::xs))(hl:lo≤g):KeysR W lo (.slice (some ⟨g,1,none⟩) xs.length (c-1)) xs:=by
 obtain⟨Z,hZ,_,hcc,hi⟩:=h;exact .inr ⟨g,1,c-1,Z,rfl,hl,hZ,fun i s hs=>(by rw[Nat.add_comm];exact hi (i+1) s (by simpa using hs)),by simp at hcc;omega⟩
theorem keysR_none {c:Nat}(h:TextsAt W g c [x])(hl:lo≤g):KeysR W lo (.slice (some ⟨g,0,none⟩) 0 0) []:=by
 obtain⟨Z,hZ,_,_,hi⟩:=h;exact .inr ⟨g,0,0,Z,rfl,hl,hZ,fun i s hs=>(by simp at hs),Nat.le_refl _⟩
theorem kindRf_cases (x:ByteArray):(x=⟨#[103,101,116]⟩∧kindRf x=1)∨(x=⟨#[100,101,108]⟩∧kindRf x=3)∨(¬x=⟨#[103,101,116]⟩∧¬x=⟨#[100,101,108]⟩∧kindRf x=0):=by
 unfold kindRf;by_cases h1:x=⟨#[103,101,116]⟩
 ·exact .inl ⟨h1,if_pos h1⟩
 ·by_cases h2:x=⟨#[100,101,108]⟩
  ·exact .inr (.inl ⟨h2,by rw[if_neg h1,if_pos h2]⟩)
  ·exact .inr (.inr ⟨h1,h2,by rw[if_neg h1,if_neg h2]⟩)
theorem refline_form (s:ByteArray)(e:Nat)(ws:List ByteArray)(w:World)(hs:s.size≤1000000000000)(he:Go.Lib.indexByte s.data.toList 10=(e:Int))(hlt:e<s.size)(hws:ws=wordsOf (s.data.toList.take e))(hsz:setSizeR ws=none):Calls Tryz.prog 171 #[.string s] w fun r w'=>RefOut w w' (if cmdB (kindRf (ws.getD 0 noB)) (ws.drop 1) noB=false then some ⟨wrongC formB false,e+1,false⟩else some ⟨⟨kindRf (ws.getD 0 noB),ws.drop 1,noB,noB,false,0⟩,e+1,false⟩) r∧Below w.heap.size w w':=by
 have HE:=hide' (fun W=>refend_any s W (by unfold maxLen;omega));rw[he]at HE;have hline:(s.extract 0 e).data.toList=s.data.toList.take e:=by rw[extract_mkB];simp[mkB]
 have hls:(s.extract 0 e).size≤1000000000000:=by rw[ByteArray.size_extract];omega
 have HSp:=hide' (fun W=>refsplit_any (s.extract 0 e) W hls);rw[hline,←hws]at HSp;have hwl:ws.length≤1000000000001:=by
  rw[hws];have:=splitL_len' (s.data.toList.take e);unfold wordsOf;rw[List.length_map];rw[List.length_take]at this;omega
 have hsize:∀x∈ws,x.size≤maxLen:=by
  intro x hx;rw[hws]at hx;exact Nat.le_trans (words_size _ x hx) (by rw[List.length_take];unfold maxLen;omega)
 obtain⟨x,xs,hxs⟩:∃x xs,ws=x::xs:=by
  cases hw:ws with
  |nil=>exfalso;rw[hws]at hw;unfold wordsOf at hw;simp at hw;exact splitL_ne' _ hw
  |cons x xs=>exact⟨x,xs,rfl⟩
 clear hws he hline;subst hxs;have e0:(x::xs).getD 0 noB=x:=rfl;have e1:(x::xs).drop 1=xs:=rfl;rw[e0,e1];have i1:(0:Int)≤(e:Int):=by omega
 have i2:(e:Int)≤(s.size:Int):=by omega
 have hxs:∀y∈xs,y.size≤maxLen:=fun y hy=>hsize y (by simp[hy])
 have HSet:=hide' hsz;have HXS:=hide' hxs;have hxl:(x::xs).length=xs.length+1:=rfl;rw[hxl]at HSp hwl;have HSZ:=hide' hsize;obtain⟨RES,hRES⟩:∃R,(if cmdB (kindRf x) xs noB=false then some ⟨wrongC formB false,e+1,false⟩else some ⟨⟨kindRf x,xs,noB,noB,false,0⟩,e+1,false⟩:Option StepR)=R:=⟨_,rfl⟩
 have HRES:=hide' hRES;rw[hRES];clear hsize hxs hsz hxl e0 e1 hRES;generalize hn:xs.length=n at*;have HN:=hide' hn;clear hn;go_enter Tryz.func171,Tryz.ntmps171;go_wp2_with (first
  |(go_at_call 181;refine(HE.out _).mono ?_;rintro r w1 ⟨rfl,rfl⟩)
  |fail)
 go_at_call 183;refine(HSp.out _).mono ?_;rintro r w2 ⟨g,c,rfl,hown,hb2⟩;obtain⟨hT,hg⟩:=owns_texts (by show xs.length+1=n+1;rw[HN.out]) (by omega) hown;obtain⟨hRc,hRl,hBl⟩:=zres (by simpa using hb2);have hR2:w2.heap[w.heap.size]?=some zCmdO:=(hb2.block _ (by simp)).trans (blkNew w _);have HT:=hide' (And.intro hT (And.intro hR2 hBl));have hgl:=hT.lt;have hcap:n+1≤c:=by obtain⟨Z,_,_,h,_⟩:=hT;have:(x::xs).length≤c:=h;rw[List.length_cons,HN.out]at this;exact this
 have hg1:w.heap.size<g:=by simp at hg;omega
 have c0:=texts_cell hT (i:=0) (x:=x) rfl;clear hown hb2 hT hRc hR2 hBl hg HSp HE;have hc1:¬(c:Int)=0:=by omega
 have n1:(0:Int)<(n:Int)+1:=by omega
 go_upto_region 8 with fail
 go_cut [32] (fun s32 W=>s32= .bool (decide (n=2∧x=⟨#[115,101,116]⟩))∧TextsAt W g c (x::xs)∧W.heap[w.heap.size]?=some zCmdO∧Below w.heap.size w W)
 case first=>
  by_cases hn2:n=2
  ·subst hn2;by_cases hx:x=⟨#[115,101,116]⟩
   ·subst hx;go_wp2_with fail
    go_meet
    case rel=>exact⟨by simp,HT.out⟩
   ·have hx':=eqB (s:=x) [115,101,116] hx;go_wp2_with fail
    go_meet
    case rel=>exact⟨by simp[hx],HT.out⟩
  ·have hn2':((n:Int)+1==3)=false:=by rw[beq_eq_false_iff_ne];omega
   go_wp2_with fail
   go_meet
   case rel=>exact⟨by simp[hn2],HT.out⟩
 case rest=>
  clear c0 hRl hgl HT;obtain⟨rfl,HT0⟩:=hcut;have HT:=hide' HT0;clear HT0;go_upto_if 32 with fail
  go_cut [6] (fun s6 W=>s6= .int .i64 (-1)∧TextsAt W g c (x::xs)∧W.heap[w.heap.size]?=some zCmdO∧Below w.heap.size w W)
  case first=>
   by_cases hset:n=2∧x=⟨#[115,101,116]⟩
   ·have hd:decide (n=2∧x=⟨#[115,101,116]⟩)=true:=by simpa using hset
    rw[hd];obtain⟨hn2,hx⟩:=hset;subst hn2;subst hx;have hxs2:=HN.out;match xs,hxs2,HSZ,HSet,HT with
    | [y,z],_,HSZ,HSet,HT=>
     have c1:=texts_cell HT.out.1 (i:=1) (x:=y) rfl;have c2:=texts_cell HT.out.1 (i:=2) (x:=z) rfl;have hgl:=HT.out.1.lt;have hy:=HSZ.out y (by simp);have hz:=HSZ.out z (by simp);have hc2:(2:Int)<2+1:=by omega
     cases hk:keyB y with
     |false=>
      have HKy:=hide' (fun W=>refkey_any y W hy);rw[hk]at HKy;clear hd hk;go_wp2_with (first|(go_at_call 137;refine(HKy.out _).mono ?_;rintro r w' ⟨rfl,hw⟩;subst hw)|fail)
      go_meet
      case rel=>exact⟨rfl,HT.out⟩
     |true=>
      have hcz:countS z=none:=by
       have h:=HSet.out;unfold setSizeR at h;rw[if_pos ⟨rfl,(kindB_set _).2 rfl,hk⟩]at h;exact h
      have HKy:=hide' (fun W=>refkey_any y W hy);have HCz:=hide' (fun W=>refcount_any z W hz);rw[hk]at HKy;rw[hcz]at HCz;unfold cntI at HCz;dsimp only at HCz;clear hd hk hcz;go_wp2_with (first|(go_at_call 137;refine(HKy.out _).mono ?_;rintro r w' ⟨rfl,hw⟩;subst hw)|(go_at_call 184;refine(HCz.out _).mono ?_;rintro r w' ⟨rfl,hw⟩;subst hw)|fail)
      go_meet
      case rel=>exact⟨rfl,HT.out⟩
   ·have hd:decide (n=2∧x=⟨#[115,101,116]⟩)=false:=by simpa using hset
    rw[hd];go_wp2_with fail
    go_meet
    case rel=>exact⟨rfl,HT.out⟩
  case rest=>
   clear HT;obtain⟨rfl,hT,hR,hB⟩:=hcut;have c0:=texts_cell hT (i:=0) (x:=x) rfl;have hgl:=hT.lt;have HT:=hide' (And.intro hT (And.intro hR hB));have hrl:=blkLt hR;clear hT hR hB HSet;have m1:(1:Int)≤(n:Int)+1:=by omega
   have m3:(n:Int)+1≤(c:Int):=by omega
   go_upto_region 21 with fail
   go_cut [9] (fun s9 W=>∃C kv,s9= .pointer (some ⟨C,0,none⟩)∧CmdAt w W C ⟨0,xs,noB,noB,false,0⟩ kv∧TextsAt W g c (x::xs))
   case first=>
    by_cases hc:c=1
    ·subst hc;have hn0:n=0:=by omega
     subst hn0;have hx0:xs=[]:=List.length_eq_zero_iff.1 HN.out;subst hx0;go_wp2_with fail
     go_meet
     case rel=>exact⟨_,_,rfl,CmdAt.mk' HT.out.2.1 (keysR_none HT.out.1 (by omega)) HT.out.2.2,HT.out.1.other (Below.heap_alloc _ _ _ hgl)⟩
    ·have HKT:=hide' (keysR_tail HT.out.1 (lo:=w.heap.size) (by omega));rw[HN.out]at HKT;go_wp2_with fail
     go_meet
     case rel=>exact⟨_,_,rfl,CmdAt.mk' HT.out.2.1 HKT.out HT.out.2.2,HT.out.1.other (Below.heap_alloc _ _ _ hgl)⟩
   case rest=>
    clear c0 hgl HT hrl;obtain⟨C,kv,rfl,hC,hT⟩:=hcut;have cx:=texts_cell hT (i:=0) (x:=x) rfl;have hgl:=hT.lt;obtain⟨⟨⟨k0,k1,k2,k3,k4,k5⟩,kf⟩,hCl,_,_⟩:=hC.cells;have HC:=hide' (And.intro hC hT);have hgC:¬g=C:=fun e=>by
     obtain⟨Z,hZ,_⟩:=hT;rw[e,hC.at_]at hZ;cases hZ
    have hCg:¬C=g:=fun e=>hgC e.symm
    clear hC hT;have hS:=HC.out.1.keys.strs (by show xs.length≤_;rw[HN.out];omega) HXS.out;obtain⟨ka,kc,hkv⟩:=HC.out.1.keys.form;simp only at hkv k0 k1 k2 k3 k4 k5;subst hkv;have HKS:Hid (∀W,KeysR W w.heap.size (.slice ka xs.length kc) xs→StrsAt W (.slice ka xs.length kc) xs):=fun W h=>h.strs (by rw[HN.out];omega) HXS.out
    clear hS;have hrl:=HC.out.1.gt;obtain⟨_,_,⟨⟨r0,r1,r2,r3,r4,r5⟩,rf⟩,_⟩:=HC.out.1.cells;rcases kindRf_cases x with⟨hx,hk⟩|⟨hx,hk⟩|⟨hx,hx2,hk⟩
    ·subst hx;have HCk:=hide' (HC.out.1.kind 1);rw[hk]at HRES;have HCM:=hide' (refcmd_any 1 _ xs noB noB false 0 _ (HKS.out _ HCk.out.keys) (by decide));unfold cmdV6 at HCM;clear HC HKS hk;cases hcm:cmdB 1 xs noB with
     |false=>
      rw[hcm]at HCM;have hr:RES=some ⟨wrongC formB false,e+1,false⟩:=by rw[←HRES.out,if_pos hcm]
      subst hr;clear HRES hcm;go_wp2_with (first|(go_at_call 139;refine HCM.out.mono ?_;rintro r w3 ⟨rfl,hb3⟩;have HC3:=hide' (HCk.out.later hb3);clear hb3)|fail)
      go_at_call 182;refine(refwrong_any _ _ _).mono ?_;rintro r w4 ⟨rfl,hb4⟩;have HC4:=hide' (HC3.out.later hb4);clear hb4 HC3 r0 r1 r2 r3 r4 r5 rf hrl k0 k1 k2 k3 k4 k5 kf hCl;obtain⟨_,_,⟨⟨r0,r1,r2,r3,r4,r5⟩,rf⟩,hrl⟩:=HC4.out.cells;unfold wrongV;go_wp2;refine bodyPost_ret (v:= .tuple #[wrongV formB false,.int .i64 1]) (by simp[results,Tryz.results171,go_sem,wrongV,formB,r0,r1,r2,r3,r4,r5]) rfl ⟨⟨.slice none 0 0,rfl,.inl ⟨rfl,rfl⟩⟩,(HC4.out.fin _ _ _ _ _ _).1⟩
     |true=>
      rw[hcm]at HCM;have hr:RES=some ⟨⟨1,xs,noB,noB,false,0⟩,e+1,false⟩:=by rw[←HRES.out,if_neg (by rw[hcm];simp)]
      subst hr;clear HRES hcm;go_wp2_with (first|(go_at_call 139;refine HCM.out.mono ?_;rintro r w3 ⟨rfl,hb3⟩;have HC3:=hide' (HCk.out.later hb3);clear hb3 r0 r1 r2 r3 r4 r5 rf hrl k0 k1 k2 k3 k4 k5 kf hCl;obtain⟨⟨⟨k0,k1,k2,k3,k4,k5⟩,kf⟩,hCl,⟨⟨r0,r1,r2,r3,r4,r5⟩,rf⟩,hrl⟩:=HC3.out.cells;simp only at k0 k1 k2 k3 k4 k5)|fail)
      refine bodyPost_ret (v:= .tuple #[cmdVR ⟨1,xs,noB,noB,false,0⟩ (.slice ka xs.length kc),.int .i64 1]) (by simp[results,Tryz.results171,go_sem,cmdVR,r0,r1,r2,r3,r4,r5]) rfl ⟨⟨_,rfl,(HC3.out.fin _ _ _ _ _ _).2⟩,(HC3.out.fin _ _ _ _ _ _).1⟩
    ·subst hx;have HCk:=hide' (HC.out.1.kind 3);rw[hk]at HRES;have HCM:=hide' (refcmd_any 3 _ xs noB noB false 0 _ (HKS.out _ HCk.out.keys) (by decide));unfold cmdV6 at HCM;clear HC HKS hk;cases hcm:cmdB 3 xs noB with
     |false=>
      rw[hcm]at HCM;have hr:RES=some ⟨wrongC formB false,e+1,false⟩:=by rw[←HRES.out,if_pos hcm]
      subst hr;clear HRES hcm;go_wp2_with (first|(go_at_call 139;refine HCM.out.mono ?_;rintro r w3 ⟨rfl,hb3⟩;have HC3:=hide' (HCk.out.later hb3);clear hb3)|fail)
      go_at_call 182;refine(refwrong_any _ _ _).mono ?_;rintro r w4 ⟨rfl,hb4⟩;have HC4:=hide' (HC3.out.later hb4);clear hb4 HC3 r0 r1 r2 r3 r4 r5 rf hrl k0 k1 k2 k3 k4 k5 kf hCl;obtain⟨_,_,⟨⟨r0,r1,r2,r3,r4,r5⟩,rf⟩,hrl⟩:=HC4.out.cells;unfold wrongV;go_wp2;refine bodyPost_ret (v:= .tuple #[wrongV formB false,.int .i64 1]) (by simp[results,Tryz.results171,go_sem,wrongV,formB,r0,r1,r2,r3,r4,r5]) rfl ⟨⟨.slice none 0 0,rfl,.inl ⟨rfl,rfl⟩⟩,(HC4.out.fin _ _ _ _ _ _).1⟩
     |true=>
      rw[hcm]at HCM;have hr:RES=some ⟨⟨3,xs,noB,noB,false,0⟩,e+1,false⟩:=by rw[←HRES.out,if_neg (by rw[hcm];simp)]
      subst hr;clear HRES hcm;go_wp2_with (first|(go_at_call 139;refine HCM.out.mono ?_;rintro r w3 ⟨rfl,hb3⟩;have HC3:=hide' (HCk.out.later hb3);clear hb3 r0 r1 r2 r3 r4 r5 rf hrl k0 k1 k2 k3 k4 k5 kf hCl;obtain⟨⟨⟨k0,k1,k2,k3,k4,k5⟩,kf⟩,hCl,⟨⟨r0,r1,r2,r3,r4,r5⟩,rf⟩,hrl⟩:=HC3.out.cells;simp only at k0 k1 k2 k3 k4 k5)|fail)
      refine bodyPost_ret (v:= .tuple #[cmdVR ⟨3,xs,noB,noB,false,0⟩ (.slice ka xs.length kc),.int .i64 1]) (by simp[results,Tryz.results171,go_sem,cmdVR,r0,r1,r2,r3,r4,r5]) rfl ⟨⟨_,rfl,(HC3.out.fin _ _ _ _ _ _).2⟩,(HC3.out.fin _ _ _ _ _ _).1⟩
    ·have hx':=eqB (s:=x) [103,101,116] hx;have hx2':=eqB (s:=x) [100,101,108] hx2;have HCk:=hide' HC.out.1;rw[hk]at HRES;have HCM:=hide' (refcmd_any 0 _ xs noB noB false 0 _ (HKS.out _ HCk.out.keys) (by decide));unfold cmdV6 at HCM;clear HC HKS hk;cases hcm:cmdB 0 xs noB with
     |false=>
      rw[hcm]at HCM;have hr:RES=some ⟨wrongC formB false,e+1,false⟩:=by rw[←HRES.out,if_pos hcm]
      subst hr;clear HRES hcm;go_wp2_with (first|(go_at_call 139;refine HCM.out.mono ?_;rintro r w3 ⟨rfl,hb3⟩;have HC3:=hide' (HCk.out.later hb3);clear hb3)|fail)
      go_at_call 182;refine(refwrong_any _ _ _).mono ?_;rintro r w4 ⟨rfl,hb4⟩;have HC4:=hide' (HC3.out.later hb4);clear hb4 HC3 r0 r1 r2 r3 r4 r5 rf hrl k0 k1 k2 k3 k4 k5 kf hCl;obtain⟨_,_,⟨⟨r0,r1,r2,r3,r4,r5⟩,rf⟩,hrl⟩:=HC4.out.cells;unfold wrongV;go_wp2;refine bodyPost_ret (v:= .tuple #[wrongV formB false,.int .i64 1]) (by simp[results,Tryz.results171,go_sem,wrongV,formB,r0,r1,r2,r3,r4,r5]) rfl ⟨⟨.slice none 0 0,rfl,.inl ⟨rfl,rfl⟩⟩,(HC4.out.fin _ _ _ _ _ _).1⟩
     |true=>
      rw[hcm]at HCM;have hr:RES=some ⟨⟨0,xs,noB,noB,false,0⟩,e+1,false⟩:=by rw[←HRES.out,if_neg (by rw[hcm];simp)]
      subst hr;clear HRES hcm;go_wp2_with (first|(go_at_call 139;refine HCM.out.mono ?_;rintro r w3 ⟨rfl,hb3⟩;have HC3:=hide' (HCk.out.later hb3);clear hb3 r0 r1 r2 r3 r4 r5 rf hrl k0 k1 k2 k3 k4 k5 kf hCl;obtain⟨⟨⟨k0,k1,k2,k3,k4,k5⟩,kf⟩,hCl,⟨⟨r0,r1,r2,r3,r4,r5⟩,rf⟩,hrl⟩:=HC3.out.cells;simp only at k0 k1 k2 k3 k4 k5)|fail)
      refine bodyPost_ret (v:= .tuple #[cmdVR ⟨0,xs,noB,noB,false,0⟩ (.slice ka xs.length kc),.int .i64 1]) (by simp[results,Tryz.results171,go_sem,cmdVR,r0,r1,r2,r3,r4,r5]) rfl ⟨⟨_,rfl,(HC3.out.fin _ _ _ _ _ _).2⟩,(HC3.out.fin _ _ _ _ _ _).1⟩
end Go.Proofs.YtlonjggfnleolaaGreatDoor
