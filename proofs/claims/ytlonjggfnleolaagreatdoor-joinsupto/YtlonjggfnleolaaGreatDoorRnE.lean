import Derived.Test.YtlonjggfnleolaaGreatDoorRnD
namespace Go.Proofs.YtlonjggfnleolaaGreatDoor
open Go.RowKit Go.Shelf
set_option linter.unusedVariables false
set_option maxHeartbeats 2000000
set_option maxRecDepth 100000
variable {w:World}{v:ByteArray}{x:QS}{d:Int}{j:Nat}
theorem rcomes23 {v:RQI}(h:RQuAt w v x)(hn:x.n=0)(hf:x.fa=false)(hr:x.re=false)(hok:∀p∈x.ps,PSOk x.c.kind p)(h1:1≤x.ps.length)(h4:x.ps.length≤4)(hk:x.c.kind=2∨x.c.kind=3):Calls Tryz.prog 174 #[.pointer (some ⟨v.B,0,none⟩)] w fun e w'=>ComesTo w w' x e:=by
 have hall:=all_an hn hf hr hok;have hB:=h.blk;unfold rwO at hB;obtain⟨pa,pc,hpv⟩:=row_form h.row;have hbl:=h.len;rw[hpv]at hB;have b0:=blkCell hB 0;have b6:=blkCell hB 6;simp at b0 b6;have hBl:=blkLt hB;obtain⟨p0,hp0⟩:∃p0,x.ps[0]?=some p0:=⟨_,List.getElem?_eq_getElem (by omega)⟩
 obtain⟨b,hb⟩:∃b,v.bs[0]?=some b:=⟨_,List.getElem?_eq_getElem (by omega)⟩
 obtain⟨g,cap,e1,e2,e3⟩:=row_at h.row (by simp) (i:=0) (x:=ptrV b) (by rw[List.getElem?_map,hb];rfl);rw[hpv]at e1;cases e1;unfold ptrV at e3;obtain⟨st,vl,rfl,hst,hvl⟩:=hall p0 (List.mem_of_getElem? hp0);obtain⟨o,id,hpb⟩:=h.ok 0 b _ hb hp0;unfold rpO at hpb;have q3:=blkCell hpb 3;simp at q3;have hql:=blkLt hpb;have hbn:v.bs.length≤4:=by omega
 have hb0:(0:Int)<(v.bs.length:Int):=by omega
 have hyes:(x.ps.map PS.yes).headD false=decide (st=0):=by
  cases hps:x.ps with
  |nil=>rw[hps]at hp0;cases hp0
  |cons q ps=>
   rw[hps]at hp0;simp at hp0;simp[hp0,PS.yes]
 have HK1:=hide' (show x.c.kind≠1 by omega);have hBn:¬v.B=w.heap.size:=by omega
 have hgn:¬g=w.heap.size:=by omega
 have hbn2:¬b=w.heap.size:=by omega
 have hak:x.ak=if x.c.kind=2 then 2 else if decide (st=0)=true then 3 else 4:=by
  unfold QS.ak;rw[hf,hr,hyes];simp;omega
 have HFin:Hid (∀(A:Obj) (q:Nat),Below w.heap.size w (w.alloc A)):=fun A q=>(Below.refl _ _).alloc (Nat.le_refl _) _
 unfold ComesTo;clear h hall hB hpv hp0 hb hpb hn hf hr hok hyes hvl;generalize v.B=B at*;generalize v.bs.length=n at*;rcases hk with e|e
 ·rw[e]at hak b0;rw[if_pos rfl]at hak;rw[hak];go_enter Tryz.func174,Tryz.ntmps174;go_wp2;refine bodyPost_ret (v:=ansV 2 (.slice none 0 0) (.slice none 0 0) ⟨#[]⟩) (by simp[results,Tryz.results174,go_sem,ansV]) rfl ⟨none,0,0,none,0,0,rfl,HFin.out _ 0,fun _=>⟨rfl,rfl,rfl,rfl,rfl,rfl⟩,fun e=>absurd e HK1.out,fun b hb=>(by cases hb),fun b hb=>(by cases hb)⟩
 ·rw[e]at hak b0;rw[if_neg (by decide)]at hak;rcases hst with rfl|rfl
  ·rw[if_pos (by decide)]at hak;rw[hak];go_enter Tryz.func174,Tryz.ntmps174;go_wp2;refine bodyPost_ret (v:=ansV 3 (.slice none 0 0) (.slice none 0 0) ⟨#[]⟩) (by simp[results,Tryz.results174,go_sem,ansV]) rfl ⟨none,0,0,none,0,0,rfl,HFin.out _ 0,fun _=>⟨rfl,rfl,rfl,rfl,rfl,rfl⟩,fun e=>absurd e HK1.out,fun b hb=>(by cases hb),fun b hb=>(by cases hb)⟩
  ·rw[if_neg (by decide)]at hak;rw[hak];go_enter Tryz.func174,Tryz.ntmps174;go_wp2;refine bodyPost_ret (v:=ansV 4 (.slice none 0 0) (.slice none 0 0) ⟨#[]⟩) (by simp[results,Tryz.results174,go_sem,ansV]) rfl ⟨none,0,0,none,0,0,rfl,HFin.out _ 0,fun _=>⟨rfl,rfl,rfl,rfl,rfl,rfl⟩,fun e=>absurd e HK1.out,fun b hb=>(by cases hb),fun b hb=>(by cases hb)⟩
theorem rcomesQ {v:RQI}(h:RQuAt w v x)(hn:x.n=0)(hf:x.fa=false)(hr:x.re=false)(ok:QSOk d x)(hk:x.c.keys≠[]):Calls Tryz.prog 174 #[.pointer (some ⟨v.B,0,none⟩)] w fun e w'=>ComesTo w w' x e:=by
 have hl:=ok.len;have h1:=List.length_pos_iff.2 hk;have h4:=ok.w.cm.k4;rcases ok.w.cm.right hk with e|e|e
 ·exact rcomes1 h hn hf hr ok.ps (by omega) (by omega) e
 ·exact rcomes23 h hn hf hr ok.ps (by omega) (by omega) (.inl e)
 ·exact rcomes23 h hn hf hr ok.ps (by omega) (by omega) (.inr e)
theorem tellS_plain (d ck ak:Int)(ss:List ByteArray)(bs:List Bool)(vs:List ByteArray)(wd:ByteArray)(id:Int)(h:ak≠1):tellS d ck ak ss bs vs wd id=tellS d ck ak ss [] [] wd id:=by
 unfold tellS;rw[if_neg h,if_neg h,if_neg h,if_neg h,if_neg h,if_neg h]
theorem answerB_plain (ck:Int)(ss:List ByteArray)(val:ByteArray)(ak:Int)(bs:List Bool)(vs:List ByteArray)(wd:ByteArray)(h:ak≠1):answerB ck ss val ak bs vs wd=answerB ck ss val ak [] [] wd:=by
 unfold answerB;rw[if_neg h,if_neg h]
theorem reftellQ {W:World}(hd:d=1∨d=2∨d=3)(ok:QSOk d x)(hk:x.c.keys≠[]){ka:Option Addr}{kc:Nat}(hs:StrsIn W ka x.c.keys.length kc x.c.keys){fa va:Option Addr}{fn fc vn vc:Nat}(h1:x.ak≠1→fa=none∧fn=0∧fc=0∧va=none∧vn=0∧vc=0)(h2:x.ak=1→BoolsIn W fa fn fc (x.ps.map PS.yes)∧StrsIn W va vn vc (x.ps.map PS.val)):Calls Tryz.prog 104 #[.int .i64 d,cmdV6 x.c.kind (.slice ka x.c.keys.length kc) x.c.val x.c.word x.c.fatal x.c.id,ansV x.ak (.slice fa fn fc) (.slice va vn vc) x.wd,.int .i64 x.c.id] W fun e w'=>e= .returned (.tuple #[.string (toldB d x),.int .i64 0])∧Below W.heap.size W w':=by
 have hA:=ok.answer hk;have hS:=ok.say hd hk;have hv40:=ok.w.cm.v40;have hwd:x.wd.size≤maxLen:=by
  unfold QS.wd maxLen;split
  ·decide
  ·split<;>decide
 have e:toldB d x=tellS d x.c.kind x.ak x.c.keys (x.ps.map PS.yes) (x.ps.map PS.val) x.wd x.c.id:=by unfold toldB;rw[if_neg hk]
 rw[e];by_cases ha:x.ak=1
 ·obtain⟨h3,h4⟩:=h2 ha;refine(reftell_any d x.c.kind ka x.c.keys.length kc x.c.keys x.c.val x.c.word x.c.fatal x.c.id x.ak fa va fn fc vn vc _ _ x.wd x.c.id W hs (by unfold maxLen;omega) h3 h4 hwd).mono ?_;rw[hA,hS];rintro e w' ⟨rfl,hb⟩;exact⟨rfl,hb⟩
 ·obtain⟨rfl,rfl,rfl,rfl,rfl,rfl⟩:=h1 ha;rw[answerB_plain _ _ _ _ _ _ _ ha]at hA;rw[tellS_plain _ _ _ _ _ _ _ _ ha];refine(reftell_any d x.c.kind ka x.c.keys.length kc x.c.keys x.c.val x.c.word x.c.fatal x.c.id x.ak none none 0 0 0 0 [] [] x.wd x.c.id W hs (by unfold maxLen;omega) ⟨rfl,Nat.le_refl _,by simp,.inr ⟨rfl,rfl⟩⟩ ⟨rfl,Nat.le_refl _,by simp,by simp,.inr ⟨rfl,rfl⟩⟩ hwd).mono ?_;rw[hA,hS];rintro e w' ⟨rfl,hb⟩;exact⟨rfl,hb⟩
def wdAt (x:QS)(j:Nat):ByteArray:=if(x.ps.take j).any PS.bad=true then downB else if(x.ps.take j).any PS.ref=true then refusedB else x.c.word
theorem wdAt_zero (x:QS):wdAt x 0=x.c.word:=by unfold wdAt;simp
theorem any_snoc {α:Type}(l:List α)(j:Nat)(p:α)(f:α→Bool)(h:l[j]?=some p):(l.take (j+1)).any f=((l.take j).any f || f p):=by
 rw[List.take_add_one,h,List.any_append];simp
theorem downB_ne:downB.toList.isEmpty=false:=by decide+kernel
theorem refusedB_ne:refusedB.toList.isEmpty=false:=by decide+kernel
theorem wdAt_fl (h:x.ps[j]?=some .fl):wdAt x (j+1)=downB:=by
 unfold wdAt;rw[any_snoc _ _ _ _ h];simp[PS.bad]
theorem wdAt_an {st:Nat}(h:x.ps[j]?=some (.an st v))(hs:st≠2):wdAt x (j+1)=wdAt x j:=by
 unfold wdAt;rw[any_snoc _ _ _ _ h,any_snoc _ _ _ _ h];simp[PS.bad,PS.ref,hs]
theorem wdAt_ref (h:x.ps[j]?=some (.an 2 v))(he:(wdAt x j).toList.isEmpty=true):wdAt x (j+1)=refusedB:=by
 have hb:(x.ps.take j).any PS.bad=false:=by
  cases hb:(x.ps.take j).any PS.bad with
  |false=>rfl
  |true=>
   unfold wdAt at he;rw[if_pos hb,downB_ne]at he;cases he
 unfold wdAt;rw[any_snoc _ _ _ _ h,any_snoc _ _ _ _ h,hb];simp[PS.bad,PS.ref]
theorem wdAt_ref2 (h:x.ps[j]?=some (.an 2 v))(hw:x.c.word=noB)(he:(wdAt x j).toList.isEmpty=false):wdAt x (j+1)=wdAt x j:=by
 unfold wdAt at he⊢;rw[any_snoc _ _ _ _ h,any_snoc _ _ _ _ h];by_cases hb:(x.ps.take j).any PS.bad=true
 ·simp[hb]
 ·have hb':(x.ps.take j).any PS.bad=false:=by simpa using hb
  rw[hb']at he⊢;by_cases hr:(x.ps.take j).any PS.ref=true
  ·simp[PS.bad,hr]
  ·have hr':(x.ps.take j).any PS.ref=false:=by simpa using hr
   rw[hr',hw,if_neg (by decide),if_neg (by decide),emptyNo]at he;cases he
theorem wdAt_end (x:QS)(hw:x.c.word=noB):wdAt x x.ps.length=x.wd:=by
 unfold wdAt QS.wd QS.fa QS.re;rw[List.take_length,hw];rfl
structure TellAt (w wr:World)(x:QS)(j:Nat):Prop where
 bel:Below w.heap.size w wr
 at_:wr.heap[w.heap.size]?=some (.cells #[.int .i64 5,.slice none 0 0,.slice none 0 0,.string (wdAt x j)] 91 (0,0))
 no:∀p∈x.ps.take j,p.opn=false
structure TellMid (w wr:World)(d:Int)(x:QS)(kv:Value):Prop where
 bel:Below w.heap.size w wr
 at_:∃ak fv vv wd,wr.heap[w.heap.size]?=some (.cells #[.int .i64 ak,fv,vv,.string wd] 91 (0,0))∧∀W',Below wr.heap.size wr W'→Calls Tryz.prog 104 #[.int .i64 d,.agg #[.int .i64 x.c.kind,kv,.string x.c.val,.string x.c.word,.bool x.c.fatal,.int .i64 x.c.id],.agg #[.int .i64 ak,fv,vv,.string wd],.int .i64 x.c.id] W' fun e w'=>e= .returned (.tuple #[.string (toldB d x),.int .i64 0])∧Below W'.heap.size W' w'
end Go.Proofs.YtlonjggfnleolaaGreatDoor
