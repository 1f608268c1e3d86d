import Derived.Test.YtlonjggfnleolaaGreatDoorKpU
import Derived.Laws.OwnMore
import Derived.WalkSmall
import Derived.Deep.Slices
import Derived.SizedLaws
import Derived.ChangeArms
import Derived.ChangeSlices
namespace Go.Proofs.YtlonjggfnleolaaGreatDoor
open Go.RowKit Go.Shelf
set_option linter.unusedVariables false
variable {css:List (List Cmd)}{i n o:Nat}{gs:List Int}{piece:List UInt8}{s:CliQ}{s':SvG}
def csOf (css:List (List Cmd))(i:Nat):List Cmd:=(css[i]?).getD []
def plyOf (gs:List Int)(css:List (List Cmd)):Ply:=⟨fun i=>((dOf gs i:Nat):Int),csOf css,fun _ k q=>PSOk k q,fun i l a=>Whole (dOf gs i) l a⟩
theorem csOf_some {cs:List Cmd}(h:css[i]?=some cs):csOf css i=cs:=by unfold csOf;rw[h];rfl
theorem csOf_mem {x:Cmd}(h:x∈csOf css i):∃cs,css[i]?=some cs∧x∈cs:=by
 unfold csOf at h;cases hc:css[i]?with
 |none=>rw[hc]at h;cases h
 |some cs=>rw[hc]at h;exact⟨cs,rfl,h⟩
theorem Saids.good' (h:Saids gs css)(i:Nat):∀x∈csOf css i,GoodC (dOf gs i) x:=fun x hx=>by
 obtain⟨cs,h1,h2⟩:=csOf_mem hx
 exact h.good i cs h1 x h2
theorem Saids.short' (h:Saids gs css)(i:Nat):(csOf css i).length≤40:=by
 unfold csOf;cases hc:css[i]?with
 |none=>exact Nat.zero_le _
 |some cs=>exact h.short i cs hc
def txI (gs:List Int)(css:List (List Cmd))(i:Nat):List UInt8:=asksFrom (dOf gs i) 0 (csOf css i)
theorem Saids.size' (h:Saids gs css)(i:Nat):(txI gs css i).length≤15000:=by
 unfold txI csOf;cases hc:css[i]?with
 |none=>exact Nat.zero_le _
 |some cs=>exact h.size i cs hc
theorem plyOf_ok (h:Saids gs css):PlyOk (plyOf gs css):=by
 refine⟨fun i=>dOf_123 gs i,h.good',fun i=>Nat.le_trans (h.short' i) (by omega),fun i k q hq=>?_,fun i told a c ps h1 h2 h3 h4 h5=>?_⟩
 ·rcases hq with e|⟨o,id,e⟩<;>(subst e;trivial)
 ·exact Whole.snoc h5 (told_sz (dOf_123 gs i) (h.good' i c (List.mem_of_getElem? h1)) a h2 h3)
def restOf (gs:List Int)(css:List (List Cmd))(sd:List Nat)(i:Nat):List UInt8:=(txI gs css i).drop ((sd[i]?).getD 0)
theorem sum_set:∀(l:List Nat) (i n k:Nat),l[i]?=some n→(l.set i (n+k)).sum=l.sum+k:=by
 intro l;induction l with
 |nil=>intro i n k h;simp at h
 |cons x l ih=>
  intro i n k h;cases i with
  |zero=>simp at h;subst h;simp;omega
  |succ i=>
   simp at h;have:=ih i n k h;simp;omega
theorem sum_le (B:Nat):∀l:List Nat,(∀x∈l,x≤B)→l.sum≤B*l.length:=by
 intro l;induction l with
 |nil=>intro _;simp
 |cons x l ih=>
  intro h;have h1:=h x (by simp);have h2:=ih (fun y hy=>h y (by simp[hy]));rw[List.sum_cons,List.length_cons,Nat.mul_add];omega
structure Pst (gs:List Int)(w W:World)(P X sv pt win:Nat)(css:List (List Cmd))(sd:List Nat)(st:List CliQ×List SrvQ)(D:PlD):Prop where
 pl:PlayV w W P X sv pt win (4000*sd.sum) st D
 sti:StI (plyOf gs css) win (restOf gs css sd) (fun _=>True) st
 hel:HeldI st.2
 cl:st.1.length=css.length
 sl:st.2.length=sv
 lS:D.S.length=sv
 txt:D.txt=txtOf gs css
 lsd:sd.length=css.length
 sle:∀(i n:Nat),sd[i]?=some n→n≤(txI gs css i).length
 mn:D.mn=manyOf css
 frs:∀(n:Nat) (u:SrvQ) (s:SvG),st.2[n]?=some u→D.S[n]?=some s→SrvIn u s
 c4:css.length≤4
 said:Saids gs css
theorem Grow.frs {st st':List SrvQ}{S:List SvG}(h:∀(n:Nat) (u:SrvQ) (s:SvG),st[n]?=some u→S[n]?=some s→SrvIn u s)(g:Grow st st'):∀(n:Nat) (u:SrvQ) (s:SvG),st'[n]?=some u→S[n]?=some s→SrvIn u s:=fun n u s hu hs=>by
 obtain⟨u0,fs,h1,h2,h3⟩:=g.2 n u hu
 exact(h n u0 s h1 hs).grow h2 h3
section
variable {gs:List Int}{w W W':World}{P X sv pt win:Nat}{css:List (List Cmd)}{sd:List Nat}{st:List CliQ×List SrvQ}{D:PlD}
theorem Pst.sum (h:Pst gs w W P X sv pt win css sd st D):sd.sum≤60000:=by
 have h1:=sum_le 15000 sd (fun x hx=>by
  obtain⟨i,hi⟩:=List.mem_iff_getElem?.1 hx;exact Nat.le_trans (h.sle i x hi) (h.said.size' i))
 have h2:=h.lsd;have h3:=h.c4;have:15000*sd.length≤15000*4:=Nat.mul_le_mul_left _ (by omega);omega
theorem Bg2.start (h:Bg2 gs w W P X sv pt win css D)(hc:css.length≤4):Pst gs w W P X sv pt win css (List.replicate css.length 0) (cliOf gs css,List.replicate sv ⟨true,0,[],[]⟩) D:=by
 have hs0:(List.replicate css.length 0).sum=0:=by simp
 have hr:∀i,restOf gs css (List.replicate css.length 0) i=txI gs css i:=fun i=>by
  unfold restOf;rw[List.getElem?_replicate];split<;>rfl
 refine⟨by rw[hs0];exact h.pl,fun i s hs=>?_,fun j s hs=>?_,by simp[cliOf],by simp,h.lS,h.txt,by simp,fun i n hn=>?_,h.mn,fun n u s hu hs=>?_,hc,h.said⟩
 ·have hs':(cliOf gs css)[i]?=some s:=hs;unfold cliOf at hs';rw[List.getElem?_mapIdx]at hs';have hs2:s=newQ (dOf gs i):=by
   cases hcs:css[i]?with
   |none=>rw[hcs]at hs';cases hs'
   |some cs=>rw[hcs]at hs';simpa using hs'.symm
  subst hs2;refine⟨⟨0,rfl,rfl,rfl,fun k x hx=>?_,?_,Nat.zero_le _,⟨[],rfl,rfl,fun t ht=>(by cases ht)⟩⟩,fun x hx=>?_,fun _=>⟨fun x l e=>?_,fun _=>?_⟩⟩
  ·simp[newQ]at hx
  ·rw[hr];rfl
  ·simp[newQ]at hx
  ·simp[newQ]at e
  ·exact readR_nil _
 ·have:=(List.mem_replicate.1 (List.mem_of_getElem? (show(List.replicate sv (⟨true,0,[],[]⟩:SrvQ))[j]?=some s from hs))).2;rw[this];exact Nat.zero_le _
 ·have:=(List.mem_replicate.1 (List.mem_of_getElem? hn)).2;rw[this];exact Nat.zero_le _
 ·have e1:=(List.mem_replicate.1 (List.mem_of_getElem? (show(List.replicate sv (⟨true,0,[],[]⟩:SrvQ))[n]?=some u from hu))).2;obtain⟨b,e2⟩:=h.nS s (List.mem_of_getElem? hs);rw[e1,e2];exact⟨[],0,FrsOk.nil,rfl,Nat.le_refl _,rfl,⟨fun p hp=>(by cases hp),fun m hm=>(by cases hm)⟩,Nat.le_refl _,Nat.le_refl _⟩
theorem Pst.same (h:Pst gs w W P X sv pt win css sd st D)(k:PlayV w W' P X sv pt win (4000*sd.sum) st D):Pst gs w W' P X sv pt win css sd st D:=
 ⟨k,h.sti,h.hel,h.cl,h.sl,h.lS,h.txt,h.lsd,h.sle,h.mn,h.frs,h.c4,h.said⟩
theorem Pst.below (h:Pst gs w W P X sv pt win css sd st D)(hb:Below W.heap.size W W'):Pst gs w W' P X sv pt win css sd st D:=h.same (h.pl.below hb)
theorem Pst.withD {D':PlD}(h:Pst gs w W P X sv pt win css sd st D)(k:PlayV w W' P X sv pt win (4000*sd.sum) st D')(e1:D'.S=D.S)(e2:D'.txt=D.txt)(e3:D'.mn=D.mn):Pst gs w W' P X sv pt win css sd st D':=
 ⟨k,h.sti,h.hel,h.cl,h.sl,by rw[e1];exact h.lS,by rw[e2];exact h.txt,h.lsd,h.sle,by rw[e3];exact h.mn,by rw[e1];exact h.frs,h.c4,h.said⟩
theorem Pst.says (h:Pst gs w W P X sv pt win css sd st D){r:List UInt8}(hn:sd[i]?=some n)(hr:restOf gs css sd i=piece++r)(k:PlayV w W' P X sv pt win (4000*sd.sum+4000*piece.length) (saidJ sv pt win i piece st) D):Pst gs w W' P X sv pt win css (sd.set i (n+piece.length)) (saidJ sv pt win i piece st) D:=by
 have hp:=plyOf_ok h.said;have hil:=(List.getElem?_eq_some_iff.1 hn).1;have hlen:n+piece.length≤(txI gs css i).length:=by
  have h1:=congrArg List.length hr;unfold restOf at h1;rw[hn,List.length_drop,List.length_append]at h1;have h2:=h.sle i n hn;simp at h1;omega
 have hg:=h.sti.saidG (sv:=sv) (pt:=pt) hp hr;have hs:=h.sti.said (sv:=sv) (pt:=pt) hp hr;have hre:(fun j=>if j=i then r else restOf gs css sd j)=restOf gs css (sd.set i (n+piece.length)):=by
  funext j;by_cases hj:j=i
  ·rw[if_pos hj,hj];unfold restOf at hr⊢;rw[List.getElem?_set_self hil];rw[hn]at hr;show r=(txI gs css i).drop (n+piece.length);rw[←List.drop_drop];have hr':(txI gs css i).drop n=piece++r:=hr;rw[hr'];exact(List.drop_left).symm
  ·rw[if_neg hj];unfold restOf;rw[List.getElem?_set_ne (fun e=>hj e.symm)]
 rw[hre]at hs;refine⟨?_,hs,saidJ_held h.hel,(saidJ_len _ _ _ _ _ _).trans h.cl,hg.1.trans h.sl,h.lS,h.txt,by rw[List.length_set];exact h.lsd,fun j m hm=>?_,h.mn,hg.frs h.frs,h.c4,h.said⟩
 ·rw[sum_set sd i n piece.length hn,Nat.mul_add];exact k
 ·rcases get_set hm with⟨e1,e2⟩|⟨e1,e2⟩
  ·rw[e1,e2];exact hlen
  ·exact h.sle j m e2
theorem hear_q {cs:List CliQ}{u:SrvQ}{k m:Nat}{r:Reply}(h:hearO cs u o= .got i k m r):(plyOf gs css).Q i (kindAt cs i k) (.an r.st r.val):=hear_ok h
theorem Pst.answered (h:Pst gs w W P X sv pt win css sd st D)(k:PlayV w W' P X sv pt win (4000*sd.sum) (answeredJ sv pt win o piece st) D):Pst gs w W' P X sv pt win css sd (answeredJ sv pt win o piece st) D:=by
 have hp:=plyOf_ok h.said;have hg:=h.sti.answeredG (sv:=sv) (pt:=pt) (o:=o) hp (fun cs u i k m r hh=>hear_q hh) piece;exact⟨k,h.sti.answered (sv:=sv) (pt:=pt) (o:=o) hp (fun cs u i k m r hh=>hear_q hh) piece,answeredJ_held h.hel _ _,(answeredJ_len _ _ _ _ _ _).trans h.cl,hg.1.trans h.sl,h.lS,h.txt,h.lsd,h.sle,h.mn,hg.frs h.frs,h.c4,h.said⟩
theorem Pst.fell (h:Pst gs w W P X sv pt win css sd st D)(k:PlayV w W' P X sv pt win (4000*sd.sum) (fallJ sv pt win o st) D):Pst gs w W' P X sv pt win css sd (fallJ sv pt win o st) D:=by
 have hp:=plyOf_ok h.said;have hg:=h.sti.fallG (sv:=sv) (pt:=pt) hp o;exact⟨k,h.sti.fall (sv:=sv) (pt:=pt) hp o,fallJ_held (h.hel.oth o),(fallJ_len _ _ _ _ _).trans h.cl,hg.1.trans h.sl,h.lS,h.txt,h.lsd,h.sle,h.mn,hg.frs h.frs,h.c4,h.said⟩
theorem Pst.upped (h:Pst gs w W P X sv pt win css sd st D)(k:PlayV w W' P X sv pt win (4000*sd.sum) (st.1,uppedJ o st.2) D):Pst gs w W' P X sv pt win css sd (st.1,uppedJ o st.2) D:=by
 have hg:=uppedJ_grow o st.2;exact⟨k,h.sti.up o,uppedJ_held h.hel,h.cl,hg.1.trans h.sl,h.lS,h.txt,h.lsd,h.sle,h.mn,hg.frs h.frs,h.c4,h.said⟩
theorem PlayV.served {T:Nat}(h:PlayV w W P X sv pt win T st D){s:SvG}(hs:D.S[n]?=some s)(ht:SvTo W W' s s'):PlayV w W' P X sv pt win T st {D with S:=D.S.set n s'}:=by
 obtain⟨M,h1,h2,h3⟩:=h;have hF:∀b∈s.foot,FK P D.rows D.S b:=fun b hb=> .inr (.inr ⟨s,List.mem_of_getElem? hs,hb⟩)
 have hr:({D with S:=D.S.set n s'}:PlD).rows=D.rows:=by
  have e:(D.S.set n s').map (fun s=>ptrV s.b)=D.S.map (fun s=>ptrV s.b):=by
   rw[List.map_set];refine List.ext_getElem? (fun j=>?_);rw[List.getElem?_set];split
   ·rename_i e;split
    ·rw[←e,List.getElem?_map,hs,ht.b];rfl
    ·rename_i hn;rw[List.getElem?_eq_none (by omega)]
   ·rfl
  simp only[PlD.rows,e]
 refine⟨M,?_,h1.jkeep h2 ht.chg hF,below_chg h3 h3.size ht.chg (fun b hb=>(h1.apM b (hF b hb)).2)⟩;rw[hr];exact h1.server hs ht.chg ht.at_ ht.lat h3.size h2.old
theorem Pst.worked (h:Pst gs w W P X sv pt win css sd st D){s:SvG}(hs:D.S[n]?=some s)(ht:SvTo W W' s s')(hi:∀u,st.2[n]?=some u→SrvIn u s'):Pst gs w W' P X sv pt win css sd st {D with S:=D.S.set n s'}:=by
 refine⟨h.pl.served hs ht,h.sti,h.hel,h.cl,h.sl,by show(D.S.set n s').length=sv;rw[List.length_set];exact h.lS,h.txt,h.lsd,h.sle,h.mn,fun m u t hu ht=>?_,h.c4,h.said⟩;rcases get_set (show(D.S.set n s')[m]?=some t from ht)with⟨e1,e2⟩|⟨e1,e2⟩
 ·rw[e2];rw[e1]at hu;exact hi u hu
 ·exact h.frs m u t hu e2
theorem Pst.told (h:Pst gs w W P X sv pt win css sd st D)(hs:st.1[i]?=some s):∃a,Whole (dOf gs i) s.told a∧a≤(csOf css i).length:=by
 obtain⟨⟨a,h1⟩,_⟩:=h.sti i s hs;have:=h1.le;exact⟨a,h1.td,by have e:(plyOf gs css).cs i=csOf css i:=rfl;rw[e]at this;omega⟩
end
section
variable {w W:World}{P X sv pt win T:Nat}{st:List CliQ×List SrvQ}{D:PlD}
theorem PlayV.callSay (h:PlayV w W P X sv pt win T st D)(hs:st.1[i]?=some s)(piece:ByteArray)(hT:T+4000*piece.size+5000≤100000000000):Calls Tryz.prog 28 #[.pointer (some ⟨X,0,none⟩),.int .i64 (i:Int),.string piece] W fun e w'=>e= .returned (.int .i64 0)∧PlayV w w' P X sv pt win (T+4000*piece.size) (saidJ sv pt win i piece.data.toList st) D:=by
 obtain⟨M,h1,h2,h3⟩:=h;refine(say_pl h2 hs piece hT).mono ?_;rintro e w' ⟨rfl,a⟩;exact⟨rfl,PlayV.jun ⟨M,h1,a,h3⟩⟩
theorem PlayV.callTold (h:PlayV w W P X sv pt win T st D)(hs:st.1[i]?=some s):Calls Tryz.prog 26 #[.pointer (some ⟨X,0,none⟩),.int .i64 (i:Int)] W fun e w'=>e= .returned (.tuple #[.string (mkB s.told),.int .i64 0])∧PlayV w w' P X sv pt win T st D:=by
 obtain⟨M,h1,h2,h3⟩:=h;refine(told_pl h2 hs).mono ?_;rintro e w' ⟨rfl,a⟩;exact⟨rfl,PlayV.jun ⟨M,h1,a,h3⟩⟩
theorem PlayV.callSent (h:PlayV w W P X sv pt win T st D){s:SrvQ}(hs:st.2[i]?=some s):Calls Tryz.prog 30 #[.pointer (some ⟨X,0,none⟩),.int .i64 (i:Int)] W fun e w'=>e= .returned (.tuple #[.string (mkB s.sent),.int .i64 0])∧PlayV w w' P X sv pt win T st D:=by
 obtain⟨M,h1,h2,h3⟩:=h;refine(sent_pl h2 hs).mono ?_;rintro e w' ⟨rfl,a⟩;exact⟨rfl,PlayV.jun ⟨M,h1,a,h3⟩⟩
theorem PlayV.sizes (h:PlayV w W P X sv pt win T st D):(∀s∈st.1,s.told.length≤T)∧∀u∈st.2,u.sent.length≤T:=by
 obtain⟨M,_,⟨_,_,_,_,_,_,h2,_⟩,_⟩:=h;exact⟨fun s hs=>by have:=h2.told s hs;omega,fun u hu=>by have:=(h2.srv u hu).2;omega⟩
end
section
variable {gs:List Int}{w W:World}{P X sv pt win:Nat}{css:List (List Cmd)}{sd:List Nat}{st:List CliQ×List SrvQ}{D:PlD}
theorem Pst.callAnswer (h:Pst gs w W P X sv pt win css sd st D)(ho:o<sv)(piece:ByteArray)(hl:piece.size≤140737488355000):Calls Tryz.prog 32 #[.pointer (some ⟨X,0,none⟩),.int .i64 (o:Int),.string piece] W fun e w'=>(∃c:Int,e= .returned (.int .i64 c))∧∃st',Pst gs w w' P X sv pt win css sd st' D:=by
 obtain⟨u,hu⟩:∃u,st.2[o]?=some u:=⟨_,List.getElem?_eq_getElem (by rw[h.sl];exact ho)⟩
 have hsum:=h.sum;obtain⟨M,h1,h2,h3⟩:=h.pl;cases hup:u.up with
 |true=>
  have hh:=h.hel o u hu;refine(answer_pl h2 hu piece hup (by omega) (by omega)).mono ?_;rintro e w' ⟨rfl,a⟩;exact⟨⟨0,rfl⟩,_,h.answered (PlayV.jun ⟨M,h1,a,h3⟩)⟩
 |false=>
  refine(answer_pl_down h2 hu piece hup).mono ?_;rintro e w' ⟨rfl,rfl⟩;exact⟨⟨2,rfl⟩,_,h⟩
theorem Pst.callDown (h:Pst gs w W P X sv pt win css sd st D)(ho:o<sv):Calls Tryz.prog 33 #[.pointer (some ⟨X,0,none⟩),.int .i64 (o:Int)] W fun e w'=>(∃c:Int,e= .returned (.int .i64 c))∧∃st',Pst gs w w' P X sv pt win css sd st' D∧∀b,upAt st'.2 b→upAt st.2 b∧b≠o:=by
 obtain⟨u,hu⟩:∃u,st.2[o]?=some u:=⟨_,List.getElem?_eq_getElem (by rw[h.sl];exact ho)⟩
 have hsum:=h.sum;obtain⟨M,h1,h2,h3⟩:=h.pl;cases hup:u.up with
 |true=>
  refine(down_pl h2 hu hup (by omega)).mono ?_;rintro e w' ⟨rfl,a⟩;exact⟨⟨0,rfl⟩,_,h.fell (PlayV.jun ⟨M,h1,a,h3⟩),fun b hb=>fallJ_up hb⟩
 |false=>
  refine(down_pl_down h2 hu hup).mono ?_;rintro e w' ⟨rfl,rfl⟩;refine⟨⟨2,rfl⟩,_,h,fun b hb=>⟨hb,fun e=>?_⟩⟩;obtain⟨v,v1,v2⟩:=hb;rw[e,hu]at v1;cases v1;rw[hup]at v2;cases v2
theorem Pst.callUp (h:Pst gs w W P X sv pt win css sd st D)(ho:o<sv):Calls Tryz.prog 34 #[.pointer (some ⟨X,0,none⟩),.int .i64 (o:Int)] W fun e w'=>(∃c:Int,e= .returned (.int .i64 c))∧∃st',Pst gs w w' P X sv pt win css sd st' D:=by
 obtain⟨u,hu⟩:∃u,st.2[o]?=some u:=⟨_,List.getElem?_eq_getElem (by rw[h.sl];exact ho)⟩
 obtain⟨M,h1,h2,h3⟩:=h.pl;cases hup:u.up with
 |false=>
  refine(up_pl h2 hu hup).mono ?_;rintro e w' ⟨rfl,a⟩;exact⟨⟨0,rfl⟩,_,h.upped (PlayV.jun ⟨M,h1,a,h3⟩)⟩
 |true=>
  refine(up_pl_up h2 hu hup).mono ?_;rintro e w' ⟨rfl,rfl⟩;exact⟨⟨3,rfl⟩,_,h⟩
end
set_option maxHeartbeats 4000000
set_option maxRecDepth 100000
variable {j:Nat}
theorem PlayV.cellsAt {w0 W:World}{P X sv pt win T:Nat}{st:List CliQ×List SrvQ}{D:PlD}(h:PlayV w0 W P X sv pt win T st D){i n:Nat}{r:Rw}{u:Value}(hr:D.rows[i]?=some r)(hn:r.xs.length=n)(hj:r.xs[j]?=some u):∃g c,r.v= .slice (some ⟨g,0,none⟩) n c∧n≤c∧g<W.heap.size∧W.cell? ⟨g,j,none⟩=some u:=by
 have h1:=h.row hr;rw[hn]at h1;obtain⟨a,c,e1,e2,e3⟩:=row_sl h1;obtain⟨g,rfl,e4,e5⟩:=e3 j u hj;exact⟨g,c,e1,e2,e4,e5⟩
section
variable {gs:List Int}{w W:World}{P X sv pt win:Nat}{css:List (List Cmd)}{sd:List Nat}{st:List CliQ×List SrvQ}{D:PlD}
theorem Pst.lt (h:Pst gs w W P X sv pt win css sd st D):D.txt.length=css.length:=by rw[h.txt];simp[txtOf]
theorem Pst.many (h:Pst gs w W P X sv pt win css sd st D)(hj:j<css.length):(intsV D.mn)[j]?=some (.int .i64 ((csOf css j).length:Int))∧(intsV D.mn).length=css.length:=by
 rw[h.mn];unfold intsV manyOf;refine⟨?_,by simp⟩;rw[List.getElem?_map,List.getElem?_map,List.getElem?_eq_getElem hj,csOf_some (List.getElem?_eq_getElem hj)];rfl
theorem whole_any (h:Pst gs w W P X sv pt win css sd st D)(ga:Option Addr)(gn gc:Nat)(hg:RawIn w ga gn gc gs):Calls Tryz.prog 35 #[.pointer (some ⟨P,0,none⟩),.slice ga gn gc] W fun e w'=>e= .returned (.bool true)∧Pst gs w w' P X sv pt win css sd st D:=by
 have HRaw:Hid (∀W,Below w.heap.size w W→∀i:Nat,i≤140737488355328→Calls Tryz.prog 37 #[.slice ga gn gc,.int .i64 (i:Int)] W fun e w'=>e= .returned (.int .i64 (rawN gs i))∧w'=W):=fun W hW i hi=>raw_any ga gn gc gs i W (hg.later hW) hi
 have HWf:=hide' (fun i=>rawN_wf hg i);have HP:=hide' h;have hc4:=h.c4;have hsum:=h.sum;clear h hg;go_enter Tryz.func35,Tryz.ntmps35;go_wp2_with fail
 go_loopw [5,6,7,8,9] (fun i _ _ _ _ wr=>∃(j:Nat),i= .int .i64 (j:Int)∧j≤css.length∧Hid (Pst gs w wr P X sv pt win css sd st D)) (fun i _ _ _ _ _=>css.length-(intOf i).toNat)
 case atStart=>exact⟨0,rfl,Nat.zero_le _,HP⟩
 case round=>
  obtain⟨j,rfl,hj,HQ⟩:=hrel;clear HP;obtain⟨a2,cc2,e2,hc2,_⟩:=HQ.out.pl.rowAt (i:=1) (n:=css.length) rfl (by show(D.txt.map _).length=_;rw[List.length_map];exact HQ.out.lt);change D.v2=_ at e2;have b2:=blkCell HQ.out.pl.blk 2;have b0:=blkCell HQ.out.pl.blk 0;simp[ptrV]at b2 b0;rw[e2]at b2;have hPl:=blkLt HQ.out.pl.blk;by_cases hlt:j<css.length
  ·have hlt':(j:Int)<(css.length:Int):=by omega
   obtain⟨s,hs⟩:∃s,st.1[j]?=some s:=⟨_,List.getElem?_eq_getElem (by rw[HQ.out.cl];exact hlt)⟩
   obtain⟨a,hwh,hale⟩:=HQ.out.told hs;have HT:=hide' (HQ.out.pl.callTold hs);have hts:=HQ.out.pl.sizes.1 s (List.mem_of_getElem? hs);have HRj:Hid (∀W,Below w.heap.size w W→Calls Tryz.prog 37 #[.slice ga gn gc,.int .i64 (3+(j:Int))] W fun e w'=>e= .returned (.int .i64 (rawN gs (3+j)))∧w'=W):=fun W hW=>by
    have h:=HRaw.out W hW (3+j) (by omega);rw[show((3+j:Nat):Int)=3+(j:Int)by omega]at h;exact h
   have HPj:=hide' (fun W=>pick_big (rawN gs (3+j)) 3 W (HWf.out _) (by omega) (by omega));have hp3:=pickN_lt (rawN gs (3+j)) 3 (by omega);have hD:((dOf gs j:Nat):Int)=1+(pickN (rawN gs (3+j)) 3:Int):=by unfold dOf;omega
   rw[hD]at hwh;have HA:=hide' (fun W=>answers_any (1+(pickN (rawN gs (3+j)) 3:Int)) (mkB s.told) a W (by rw[show(mkB s.told).data.toList=s.told by simp[mkB]];exact hwh) (by rw[mk_size];omega));obtain⟨m1,m2⟩:=HQ.out.many hlt;have HM:=hide' (And.intro m1 m2);have hng:¬((csOf css j).length:Int)<(a:Int):=by omega
   have hal:(a:Int)<9223372036854775808:=by have:=HQ.out.said.short' j;omega
   generalize hmm:(csOf css j).length=mm at*;generalize hdd:pickN (rawN gs (3+j)) 3=p at*;generalize mkB s.told=tx at*;clear hwh hD m1 m2 hmm hdd;go_wp2_with fail
   go_at_call 26;refine HT.out.mono ?_;rintro e w1 ⟨rfl,hp1⟩;have HP1:=hide' (HQ.out.same hp1);clear hp1 HQ HT b2 b0 hPl e2;go_wp2_with fail
   go_at_call 37;refine(HRj.out _ HP1.out.pl.bel).mono ?_;rintro e w2 ⟨rfl,hw2⟩;subst hw2;go_wp2_with fail
   go_at_call 17;refine(HPj.out _).mono ?_;rintro e w1 ⟨rfl,hw1⟩;subst hw1;go_wp2_with fail
   go_at_call 36;refine(HA.out _).mono ?_;rintro e w3 ⟨rfl,hb3⟩;have HP3:=hide' (HP1.out.below hb3);clear hb3 HP1;obtain⟨g5,c5,e5,hc5,hg5,hcell⟩:=HP3.out.pl.cellsAt (i:=4) (n:=css.length) (j:=j) rfl HM.out.2 HM.out.1;change D.v5=_ at e5;have b5:=blkCell HP3.out.pl.blk 5;simp at b5;rw[e5]at b5;clear e5 hal;have hPl:=blkLt HP3.out.pl.blk;go_wp2_with fail
   go_roundw;case rel=>exact⟨j+1,by go_num,by omega,HP3⟩
   case measure=>simp[intOf];omega
  ·have hlt':¬(j:Int)<(css.length:Int):=by omega
   go_wp2_with fail
   go_ret;exact⟨rfl,HQ.out⟩
end
variable {w0 W:World}{P X sv pt win T n i:Nat}{st:List CliQ×List SrvQ}{D:PlD}
theorem PlayV.pc (h:PlayV w0 W P X sv pt win T st D):W.cell? ⟨P,0,none⟩=some (.pointer (some ⟨X,0,none⟩))∧W.cell? ⟨P,1,none⟩=some D.v1∧W.cell? ⟨P,2,none⟩=some D.v2∧W.cell? ⟨P,3,none⟩=some D.v3∧W.cell? ⟨P,5,none⟩=some D.v5∧P<W.heap.size:=by
 have b:=h.blk;refine⟨?_,?_,?_,?_,?_,blkLt b⟩
 ·have:=blkCell b 0;simpa [ptrV]using this
 ·have:=blkCell b 1;simpa using this
 ·have:=blkCell b 2;simpa using this
 ·have:=blkCell b 3;simpa using this
 ·have:=blkCell b 5;simpa using this
theorem PlayV.putSd (h:PlayV w0 W P X sv pt win T st D){g c m:Nat}(hv:D.v3= .slice (some ⟨g,0,none⟩) n c)(hn:D.sd.length=n)(hi:i<n):PlayV w0 (W.setCell ⟨g,i,none⟩ (.int .i64 (m:Int))) P X sv pt win T st {D with sd:=D.sd.set i m}∧W.frozen? ⟨g,i,none⟩=false:=by
 obtain⟨M,h1,h2,h3⟩:=h;have hr:D.rows[2]?=some ⟨3,D.v3,intsV D.sd⟩:=rfl;have hrow:=h1.row _ (List.mem_of_getElem? hr);simp only[hv]at hrow;have hl:(intsV D.sd).length=n:=by unfold intsV;rw[List.length_map];exact hn
 rw[hl]at hrow;have hst:=World.ownsRow.stored hrow i (.int .i64 (m:Int));have hxs:(intsV D.sd).set i (.int .i64 (m:Int))=intsV (D.sd.set i m):=by unfold intsV;rw[List.map_set]
 rw[hxs]at hst;have hl2:(intsV (D.sd.set i m)).length=n:=by unfold intsV;rw[List.length_map,List.length_set];exact hn
 obtain⟨a1,a2,a3⟩:=h1.put hr (g:=g) (n:=n) (cap:=c) (c:=i) hv (xs':=intsV (D.sd.set i m)) (u:= .int .i64 (m:Int)) (by rw[hl2];simp only[hv];exact hst.1);have hF:∀b∈[g],FK P D.rows D.S b:=fun b hb=>by rw[List.mem_singleton.1 hb];exact a3
 refine⟨⟨M,?_,h1.jkeep h2 a2 hF,below_chg h3 h3.size a2 (fun b hb=>(h1.apM b (hF b hb)).2)⟩,?_⟩
 ·exact a1
 ·obtain⟨cur,hc⟩:=ownsRow_blk hrow rfl;exact blkFree hc i
section
variable {gs:List Int}{w W:World}{P X sv pt win:Nat}{css:List (List Cmd)}{sd:List Nat}{st:List CliQ×List SrvQ}{D:PlD}
theorem Pst.forms (h:Pst gs w W P X sv pt win css sd st D)(hsd:D.sd.length=css.length):∃a1 c1 a2 c2 a3 c3 a5 c5,D.v1= .slice a1 sv c1∧sv≤c1∧D.v2= .slice a2 css.length c2∧css.length≤c2∧D.v3= .slice a3 css.length c3∧css.length≤c3∧D.v5= .slice a5 css.length c5∧css.length≤c5:=by
 obtain⟨a1,c1,e1,f1,_⟩:=h.pl.rowAt (i:=0) (n:=sv) rfl (by show(D.S.map _).length=_;rw[List.length_map];exact h.lS);obtain⟨a2,c2,e2,f2,_⟩:=h.pl.rowAt (i:=1) (n:=css.length) rfl (by show(D.txt.map _).length=_;rw[List.length_map];exact h.lt);obtain⟨a3,c3,e3,f3,_⟩:=h.pl.rowAt (i:=2) (n:=css.length) rfl (by show(intsV D.sd).length=_;unfold intsV;rw[List.length_map];exact hsd);obtain⟨a5,c5,e5,f5,_⟩:=h.pl.rowAt (i:=4) (n:=css.length) rfl (by show(intsV D.mn).length=_;unfold intsV;rw[List.length_map,h.mn];simp[manyOf]);exact⟨a1,c1,a2,c2,a3,c3,a5,c5,e1,f1,e2,f2,e3,f3,e5,f5⟩
theorem Pst.s14 (h:Pst gs w W P X sv pt win css sd st D):1≤sv∧sv≤4:=by
 obtain⟨M,_,⟨_,_,_,_,_,h1,_⟩,_⟩:=h.pl;exact⟨h1.s1,h1.s4⟩
theorem Pst.srv (h:Pst gs w W P X sv pt win css sd st D)(hn:n<sv):∃s g c,D.S[n]?=some s∧D.v1= .slice (some ⟨g,0,none⟩) sv c∧g<W.heap.size∧W.cell? ⟨g,n,none⟩=some (.pointer (some ⟨s.b,0,none⟩)):=by
 have hs:D.S[n]?=some (D.S[n]'(by rw[h.lS];exact hn)):=List.getElem?_eq_getElem _;obtain⟨g,c,e1,_,e2,e3⟩:=h.pl.cellsAt (i:=0) (n:=sv) (j:=n) (u:=ptrV (D.S[n]'(by rw[h.lS];exact hn)).b) rfl (by show(D.S.map _).length=_;rw[List.length_map];exact h.lS) (by show(D.S.map _)[n]?=_;rw[List.getElem?_map,hs];rfl);exact⟨_,g,c,hs,e1,e2,e3⟩
theorem Pst.cli (h:Pst gs w W P X sv pt win css sd st D)(hi:i<css.length):∃g c,D.v2= .slice (some ⟨g,0,none⟩) css.length c∧g<W.heap.size∧W.cell? ⟨g,i,none⟩=some (.string (mkB (txI gs css i))):=by
 have hs:D.txt[i]?=some (mkB (txI gs css i)):=by
  rw[h.txt];unfold txtOf txI;rw[List.getElem?_mapIdx,List.getElem?_eq_getElem hi,csOf_some (List.getElem?_eq_getElem hi)];rfl
 obtain⟨g,c,e1,_,e2,e3⟩:=h.pl.cellsAt (i:=1) (n:=css.length) (j:=i) (u:= .string (mkB (txI gs css i))) rfl (by show(D.txt.map _).length=_;rw[List.length_map];exact h.lt) (by show(D.txt.map _)[i]?=_;rw[List.getElem?_map,hs];rfl);exact⟨g,c,e1,e2,e3⟩
theorem Pst.sdAt (h:Pst gs w W P X sv pt win css sd st D)(hl:D.sd.length=css.length)(hn:D.sd[i]?=some n):∃g c,D.v3= .slice (some ⟨g,0,none⟩) css.length c∧g<W.heap.size∧W.cell? ⟨g,i,none⟩=some (.int .i64 (n:Int)):=by
 obtain⟨g,c,e1,_,e2,e3⟩:=h.pl.cellsAt (i:=2) (n:=css.length) (j:=i) (u:= .int .i64 (n:Int)) rfl (by show(intsV D.sd).length=_;unfold intsV;rw[List.length_map];exact hl) (by show(intsV D.sd)[i]?=_;unfold intsV;rw[List.getElem?_map,hn];rfl);exact⟨g,c,e1,e2,e3⟩
end
set_option maxHeartbeats 4000000
set_option maxRecDepth 100000
def StepTo (gs:List Int)(w W':World)(P X sv pt win:Nat)(css:List (List Cmd)):Prop:=∃sd' st' D',Pst gs w W' P X sv pt win css sd' st' D'∧D'.sd=sd'
section
variable {gs:List Int}{w W:World}{P X sv pt win:Nat}{css:List (List Cmd)}{sd:List Nat}{st:List CliQ×List SrvQ}{D:PlD}
theorem step_say (h:Pst gs w W P X sv pt win css sd st D)(hsd:D.sd=sd)(x y:Int)(hx:(Lit.int .i64 x).wf=true)(hy:(Lit.int .i64 y).wf=true):Calls Tryz.prog 25 #[.pointer (some ⟨P,0,none⟩),.agg #[.int .i64 1,.int .i64 x,.int .i64 y]] W fun e w'=>e= .returned (.bool true)∧StepTo gs w w' P X sv pt win css:=by
 have hc4:=h.c4;have hsum:=h.sum;obtain⟨hs1,hs4⟩:=h.s14;obtain⟨a1,c1,a2,c2,a3,c3,a5,c5,e1,f1,e2,f2,e3,f3,e5,f5⟩:=h.forms (by rw[hsd];exact h.lsd);have HP:=hide' h;obtain⟨p0,p1,p2,p3,p5,pl⟩:=h.pl.pc;rw[e1]at p1;rw[e2]at p2;rw[e3]at p3;have HPk1:=hide' (fun W=>pick_big x sv W hx (by omega) (by omega));have hn1:=pickN_lt x sv (by omega);obtain⟨s,g1,c1',hS,ev,hgl,hgc⟩:=h.srv hn1;rw[e1]at ev;cases ev;have HE1:=hide' (And.intro e1 (And.intro e2 (And.intro e3 hS)));have hn1':((pickN x sv:Nat):Int)<(sv:Int):=by omega
 generalize pickN x sv=n1 at*;have HSD:=hide' hsd;clear e1 e5 hS hsd p5;have HEnd:Hid (∀W',Below W.heap.size W W'→StepTo gs w W' P X sv pt win css):=fun W' hb=>⟨sd,st,D,HP.out.below hb,HSD.out⟩
 by_cases h0:css.length=0
 ·rw[h0]at p2;clear HP HE1 h e2 e3;go_enter Tryz.func25,Tryz.ntmps25;go_wp2_with fail
  go_quiet ((go_at_call 17;exact Calls.quiet_of_same (HPk1.out _)))
  go_wp2_with fail
  go_ret;exact⟨rfl,HEnd.out _ (by repeat(first|with_reducible exact Below.refl _ _|with_reducible refine Below.drew ?_|with_reducible refine below_drewN ?_ _|with_reducible refine Below.alloc ?_ (Nat.le_refl _) _))⟩
 ·have hz:((css.length:Int)==0)=false:=by rw[beq_eq_false_iff_ne];omega
  have HPk2:=hide' (fun W=>pick_big x css.length W hx (by omega) (by omega));have hi:=pickN_lt x css.length (by omega);have hi':((pickN x css.length:Nat):Int)<(css.length:Int):=by omega
  generalize pickN x css.length=i at*;obtain⟨g2,c2',ev2,hg2l,hg2c⟩:=h.cli hi;rw[e2]at ev2;cases ev2;obtain⟨n,hn⟩:∃n,sd[i]?=some n:=⟨_,List.getElem?_eq_getElem (by rw[HP.out.lsd];exact hi)⟩
  obtain⟨g3,c3',ev3,hg3l,hg3c⟩:=h.sdAt (by rw[HSD.out];exact HP.out.lsd) (i:=i) (n:=n) (by rw[HSD.out];exact hn);rw[e3]at ev3;cases ev3;have hnle:=h.sle i n hn;have htl:=HP.out.said.size' i;have hTs:(mkB (txI gs css i)).size=(txI gs css i).length:=mk_size _;obtain⟨s0,hs0⟩:∃s,st.1[i]?=some s:=⟨_,List.getElem?_eq_getElem (by rw[HP.out.cl];exact hi)⟩
  have hex:(mkB (txI gs css i)).extract n (mkB (txI gs css i)).size=mkB ((txI gs css i).drop n):=mk_drop _ _;have hex2:((mkB (txI gs css i)).extract n (mkB (txI gs css i)).size).size=(txI gs css i).length-n:=by rw[hex,mk_size,List.length_drop]
  have HHn:=hide' (And.intro hn (And.intro hs0 (And.intro hex (And.intro hTs (And.intro hex2 (And.intro hnle htl))))));have hnT:(n:Int)≤((mkB (txI gs css i)).size:Int):=by omega
  have hnT2:n≤(mkB (txI gs css i)).size:=by omega
  have hTb:(mkB (txI gs css i)).size≤15000:=by omega
  have HN3:=hide' (And.intro e2 e3);have hex3:((mkB (txI gs css i)).extract n (mkB (txI gs css i)).size).size≤15000:=by omega
  clear h e2 e3 hn hs0 hex hTs hex2 hnle htl;generalize hTT:mkB (txI gs css i)=T at*;have HTT:=hide' hTT;clear hTT;have HF:Hid (∀W2,Below W.heap.size W W2→W2.cell? ⟨W.heap.size,0,none⟩=some (.int .i64 1)→W2.cell? ⟨W.heap.size,1,none⟩=some (.int .i64 x)→W2.cell? ⟨W.heap.size,2,none⟩=some (.int .i64 y)→W.heap.size<W2.heap.size→∀W',Below W2.heap.size W2 W'→(W'.cell? ⟨P,0,none⟩=some (.pointer (some ⟨X,0,none⟩))∧W'.cell? ⟨P,1,none⟩=some (.slice (some ⟨g1,0,none⟩) sv c1)∧W'.cell? ⟨P,2,none⟩=some (.slice (some ⟨g2,0,none⟩) css.length c2)∧W'.cell? ⟨P,3,none⟩=some (.slice (some ⟨g3,0,none⟩) css.length c3)∧W'.cell? ⟨g1,n1,none⟩=some (.pointer (some ⟨s.b,0,none⟩))∧W'.cell? ⟨g2,i,none⟩=some (.string T)∧W'.cell? ⟨g3,i,none⟩=some (.int .i64 (n:Int)))∧(W'.cell? ⟨W.heap.size,0,none⟩=some (.int .i64 1)∧W'.cell? ⟨W.heap.size,1,none⟩=some (.int .i64 x)∧W'.cell? ⟨W.heap.size,2,none⟩=some (.int .i64 y))∧W.heap.size<W'.heap.size∧Below W.heap.size W W'):=fun W2 hb q0 q1 q2 hl W' hb2=>by
   have hb3:Below W.heap.size W W':=hb.trans (hb2.mono hb.size);exact⟨⟨(hb3.cell (p:=⟨P,_,none⟩) pl).trans p0,(hb3.cell (p:=⟨P,_,none⟩) pl).trans p1,(hb3.cell (p:=⟨P,_,none⟩) pl).trans p2,(hb3.cell (p:=⟨P,_,none⟩) pl).trans p3,(hb3.cell (p:=⟨g1,_,none⟩) hgl).trans hgc,(hb3.cell (p:=⟨g2,_,none⟩) hg2l).trans hg2c,(hb3.cell (p:=⟨g3,_,none⟩) hg3l).trans hg3c⟩,⟨(hb2.cell (p:=⟨W.heap.size,_,none⟩) hl).trans q0,(hb2.cell (p:=⟨W.heap.size,_,none⟩) hl).trans q1,(hb2.cell (p:=⟨W.heap.size,_,none⟩) hl).trans q2⟩,Nat.lt_of_lt_of_le hl hb2.size,hb3⟩
  go_enter Tryz.func25,Tryz.ntmps25;go_wp2_with fail
  go_quiet ((go_at_call 17;exact Calls.quiet_of_same (HPk1.out _)))
  have HF2:=hide' (HF.out ((W.alloc (.cells #[.int .i64 1,.int .i64 x,.int .i64 y] 52)).drewN nq) (below_drewN ((Below.refl _ _).alloc (Nat.le_refl _) _) _) (by simp) (by simp) (by simp) (by show W.heap.size<(W.alloc _).heap.size;simp));generalize hW2:(W.alloc (.cells #[.int .i64 1,.int .i64 x,.int .i64 y] 52)).drewN nq=W2 at*;have HBs:Hid (P<W.heap.size∧g1<W.heap.size∧g2<W.heap.size∧g3<W.heap.size):=⟨pl,hgl,hg2l,hg3l⟩
  clear HF hW2 p0 p1 p2 p3 hgc hg2c hg3c pl hgl hg2l hg3l;obtain⟨⟨p0,p1,p2,p3,hgc,hg2c,hg3c⟩,⟨q0,q1,q2⟩,hlB,hbW⟩:=HF2.out W2 (Below.refl _ _);have HBW:=hide' hbW;clear hbW;have pl:P<W2.heap.size:=by have:=HBs.out;omega
  have hgl:g1<W2.heap.size:=by have:=HBs.out;omega
  have hg2l:g2<W2.heap.size:=by have:=HBs.out;omega
  have hg3l:g3<W2.heap.size:=by have:=HBs.out;omega
  generalize hBB:W.heap.size=B at*;go_wp2_with fail
  go_quiet ((go_at_call 17;exact Calls.quiet_of_same (HPk2.out _)))
  have hb3:Below W2.heap.size W2 (W2.drewN nq):=below_drewN (Below.refl _ _) _;generalize W2.drewN nq=W3 at*;have HB3:=hide' hb3;clear p0 p1 p2 p3 hgc hg2c hg3c q0 q1 q2 HBW hlB;obtain⟨⟨p0,p1,p2,p3,hgc,hg2c,hg3c⟩,⟨q0,q1,q2⟩,hlB,hbW⟩:=HF2.out W3 HB3.out;clear hbW;have hsz3:=hb3.size;clear hb3;replace pl:P<W3.heap.size:=by omega
  replace hgl:g1<W3.heap.size:=by omega
  replace hg2l:g2<W3.heap.size:=by omega
  replace hg3l:g3<W3.heap.size:=by omega
  clear hsz3;go_wp2_with fail
  go_quiet (fail)
  have hb4:Below W2.heap.size W2 (W3.drewN nq):=below_drewN HB3.out _;generalize W3.drewN nq=W4 at*;clear p0 p1 p2 p3 hgc hg2c hg3c q0 q1 q2 HB3 hlB pl hgl hg2l hg3l;obtain⟨⟨p0,p1,p2,p3,hgc,hg2c,hg3c⟩,⟨q0,q1,q2⟩,hlB,hbW⟩:=HF2.out W4 hb4;clear hb4;have hsz4:=hbW.size;have HP4:=hide' (HP.out.below (hBB▸hbW));have HE4:=hide' (HEnd.out W4 hbW);clear hbW HF2;have pl:P<W4.heap.size:=by have:=HBs.out;omega
  clear hgc hg2c hg3c p1 p2 p3;generalize hte:T.extract n T.size=t at*;have HTe:=hide' hte;clear hte;by_cases hm:t.size=0
  ·have hm':¬(0:Int)<(t.size:Int):=by omega
   go_wp2_with fail
   go_ret;exact⟨rfl,HE4.out⟩
  ·have hm':(0:Int)<(t.size:Int):=by omega
   have HPk3:=hide' (pick_big y t.size W4 hy (by omega) (by omega));have hk:=pickN_lt y t.size (by omega);generalize pickN y t.size=k at*;have hk1:(1:Int)+(k:Int)≤(t.size:Int):=by omega
   have hk0:(0:Int)≤1+(k:Int):=by omega
   have hkw:IntKind.i64.wrap (1+(k:Int))=1+(k:Int):=wrap_small _ (by omega) (by omega);go_wp2_with fail
   go_at_call 17;refine HPk3.out.mono ?_;rintro e w1 ⟨rfl,hw1⟩;subst hw1;go_wp2_with fail
   have hsy:Calls Tryz.prog 28 #[.pointer (some ⟨X,0,none⟩),.int .i64 (i:Int),.string (t.extract 0 (1+k))] w1.drew fun e w'=>e= .returned (.int .i64 0)∧PlayV w w' P X sv pt win (4000*sd.sum+4000*(t.extract 0 (1+k)).size) (saidJ sv pt win i (t.extract 0 (1+k)).data.toList st) D:=PlayV.callSay (HP4.out.below (Below.refl _ _).drew).pl HHn.out.2.1 (t.extract 0 (1+k)) (by
    have h1:(t.extract 0 (1+k)).size≤15000:=by simp;omega
    omega)
   have HSy:=hide' hsy;clear hsy HPk3 HEnd HE4 q0 q1 q2;go_region_held3 (fun W'=>W'.cell? ⟨P,0,none⟩=some (.pointer (some ⟨X,0,none⟩))) (go_keep) (first
    |(go_at_call 28;refine HSy.out.mono ?_;rintro e w5 ⟨rfl,h5⟩;have HPl5:=hide' h5;have p05:=h5.pc.1;clear h5)
    |fail)
   rename_i hHeld;clear hHeld p05 p0 pl HSy;have hrest:restOf gs css sd i=(t.extract 0 (1+k)).data.toList++((txI gs css i).drop n).drop (1+k):=by
    have e1:t=mkB ((txI gs css i).drop n):=HHn.out.2.2.1;have e2:(t.extract 0 (1+k)).data.toList=((txI gs css i).drop n).take (1+k):=by rw[e1,mk_take];simp[mkB]
    unfold restOf;rw[HHn.out.1,e2];exact(List.take_append_drop _ _).symm
   have hpl:(t.extract 0 (1+k)).data.toList.length=1+k:=by rw[len_size'];simp;omega
   have hpz:(t.extract 0 (1+k)).size=1+k:=by simp;omega
   have h5:=HPl5.out;rw[hpz]at h5;have h6:=HP4.out.says (W':=w5) HHn.out.1 hrest (by rw[hpl];exact h5);rw[hpl]at h6;have hdl:D.sd.length=css.length:=by rw[HSD.out];exact HP4.out.lsd
   obtain⟨z1,z2⟩:=h6.pl.putSd (g:=g3) (n:=css.length) (c:=c3) (i:=i) (m:=n+(1+k)) HN3.out.2 hdl hi;have h7:=h6.withD z1 rfl rfl rfl;have HE7:Hid (StepTo gs w (w5.setCell ⟨g3,i,none⟩ (.int .i64 ((n:Int)+(1+(k:Int))))).drew P X sv pt win css):=by
    rw[show(n:Int)+(1+(k:Int))=((n+(1+k):Nat):Int)by omega];exact⟨_,_,_,h7.below (Below.refl _ _).drew,by show D.sd.set i _=_;rw[HSD.out]⟩
   obtain⟨_,_,_,p3,_,pl⟩:=h6.pl.pc;rw[HN3.out.2]at p3;obtain⟨g3',c3',ev3,hg3l,hg3c⟩:=h6.sdAt hdl (i:=i) (n:=n) (by rw[HSD.out];exact HHn.out.1);rw[HN3.out.2]at ev3;cases ev3;have hnb:n≤15000:=by omega
   have hkb:k<15000:=by omega
   have hwn:IntKind.i64.wrap ((n:Int)+(1+(k:Int)))=(n:Int)+(1+(k:Int)):=wrap_small _ (by omega) (by omega);clear h5 h6 h7 z1 hrest hpl hpz HPl5 HP4 HP hdl HHn HN3 HE1 HSD HPk1 HPk2 hk1 hkw hm hm' hk hex3;go_wp2_with fail
   go_big_region
   go_wp2_with fail
   go_ret;exact⟨rfl,HE7.out⟩
end
variable {n:Nat}{u:SrvQ}{s:SvG}
section
variable {gs:List Int}{w W:World}{P X sv pt win:Nat}{css:List (List Cmd)}{sd:List Nat}{st:List CliQ×List SrvQ}{D:PlD}
theorem Pst.callSent (h:Pst gs w W P X sv pt win css sd st D)(hu:st.2[n]?=some u):Calls Tryz.prog 30 #[.pointer (some ⟨X,0,none⟩),.int .i64 (n:Int)] W fun e w'=>e= .returned (.tuple #[.string (mkB u.sent),.int .i64 0])∧Pst gs w w' P X sv pt win css sd st D:=by
 refine(h.pl.callSent hu).mono ?_;rintro e w' ⟨rfl,a⟩;exact⟨rfl,h.same a⟩
theorem Pst.callWorks (h:Pst gs w W P X sv pt win css sd st D)(hu:st.2[n]?=some u)(hs:D.S[n]?=some s):Calls Tryz.prog 31 #[.pointer (some ⟨s.b,0,none⟩),.string (mkB u.sent)] W fun e w'=>e= .returned (.bool true)∧∃s',Pst gs w w' P X sv pt win css sd st {D with S:=D.S.set n s'}∧(D.S.set n s')[n]?=some s'∧s'.b=s.b∧(∀m∈s'.made,m.size≤47)∧s'.made.length≤1000000000:=by
 obtain⟨fs,j,h1,h2,h3,h4,h5,h6,h7⟩:=h.frs n u s hu hs;obtain⟨M,q1,q2,q3⟩:=h.pl;have hk:=q1.srv s (List.mem_of_getElem? hs);have hsum:=h.sum;have hul:=h.pl.sizes.2 u (List.mem_of_getElem? hu);have hfl:=frs_len h1;rw[←h2]at hfl;have hdl:(fs.drop j).length=fs.length-j:=List.length_drop;have hfd:FrsOk (fs.drop j):=fun f hf=>h1 f (List.mem_of_mem_drop hf)
 have hT:(mkB u.sent).data.toList=(fs.take j).flatMap Fr.by_++(fs.drop j).flatMap Fr.by_:=by
  rw[←List.flatMap_append,List.take_append_drop,←h2];simp[mkB]
 have hsz:(mkB u.sent).size=u.sent.length:=mk_size _;refine(works_any s ((fs.take j).flatMap Fr.by_) (fs.drop j) (mkB u.sent) W hk hfd hT h4 h5 (by omega) (by omega) (by omega)).mono ?_;rintro e w' ⟨rfl,s',a1,a2,a3⟩;obtain⟨b1,b2,b3⟩:=worksP_ok (fs.drop j) (s.L,s.made) hfd h5;rw[←a3]at b1 b2 b3;simp only at b2 b3;have hnl:=(List.getElem?_eq_some_iff.1 hs).1;refine⟨rfl,s',h.worked hs a1 (fun u' hu'=>?_),List.getElem?_set_self hnl,a1.b,b1.2,by omega⟩;rw[hu]at hu';cases hu';refine⟨fs,fs.length,h1,h2,Nat.le_refl _,?_,b1,by omega,by omega⟩;rw[a2,hsz,List.take_length,h2]
theorem Pst.srvM (h:Pst gs w W P X sv pt win css sd st D)(hs:D.S[n]?=some s):∃a c,s.mv= .slice a s.made.length c∧s.made.length≤c∧W.cell? ⟨s.b,2,none⟩=some s.mv∧s.b<W.heap.size∧∀(q:Nat) (m:ByteArray),s.made[q]?=some m→∃g,a=some ⟨g,0,none⟩∧g<W.heap.size∧W.cell? ⟨g,q,none⟩=some (.string m):=by
 obtain⟨M,q1,q2,q3⟩:=h.pl;have hk:=q1.srv s (List.mem_of_getElem? hs);obtain⟨a,c,e1,e2,e3⟩:=row_sl hk.rM;refine⟨a,c,e1,e2,?_,blkLt hk.blk,fun q m hq=>e3 q (.string m) (by rw[List.getElem?_map,hq];rfl)⟩;have:=blkCell hk.blk 2;simpa using this
theorem Pst.srvB (h:Pst gs w W P X sv pt win css sd st D){q:Nat}{m:ByteArray}(hn:n<sv)(hs:D.S[n]?=some s)(hq:s.made[q]?=some m){g1 c1 mg mc:Nat}(e1:D.v1= .slice (some ⟨g1,0,none⟩) sv c1)(em:s.mv= .slice (some ⟨mg,0,none⟩) s.made.length mc):W.cell? ⟨P,0,none⟩=some (.pointer (some ⟨X,0,none⟩))∧W.cell? ⟨P,1,none⟩=some (.slice (some ⟨g1,0,none⟩) sv c1)∧W.cell? ⟨g1,n,none⟩=some (.pointer (some ⟨s.b,0,none⟩))∧W.cell? ⟨s.b,2,none⟩=some (.slice (some ⟨mg,0,none⟩) s.made.length mc)∧W.cell? ⟨mg,q,none⟩=some (.string m)∧P<W.heap.size∧g1<W.heap.size∧s.b<W.heap.size∧mg<W.heap.size:=by
 obtain⟨p0,p1,_,_,_,pl⟩:=h.pl.pc;rw[e1]at p1;obtain⟨s2,g,c,hs2,ev,hgl,hgc⟩:=h.srv hn;rw[hs]at hs2;cases hs2;rw[e1]at ev;cases ev;obtain⟨a,c2,f1,f2,f3,f4,f5⟩:=h.srvM hs;obtain⟨g2,f6,f7,f8⟩:=f5 q m hq;rw[em]at f1 f3;cases f1;cases f6;exact⟨p0,p1,hgc,f3,f8,pl,hgl,f4,f7⟩
end
end Go.Proofs.YtlonjggfnleolaaGreatDoor
namespace Go.Proofs.YtlonjggfnleolaaGreatDoor
open Go.RowKit Go.Deep
set_option linter.unusedVariables false
variable {w:World}{a:Addr}{v:Value}{n:Nat}{cs:List Value}
theorem cell_addr (h:w.cell? a=some v):a=⟨a.block,a.off,none⟩∧a.block<w.heap.size:=by
 unfold World.cell? at h;split at h
 ·rename_i c t f hb;split at h
  ·cases h
  ·rename_i hs;have hs':a.spot=none:=by simpa using hs
   refine⟨?_,(Array.getElem?_eq_some_iff.1 hb).1⟩;cases a;simp at hs';subst hs';rfl
 ·cases h
theorem add_plain (b o i:Nat):(⟨b,o,none⟩:Addr).add i=⟨b,o+i,none⟩:=by
 unfold Addr.add;split
 ·subst_vars;rfl
 ·rfl
section
variable {H:Type}{enc:TypeId×Value→H}{W:World}
theorem int_open {fuel:Nat}{x:DataW H×List MemPlace}(h:DataW.trod enc Tryz.prog W 0 (fun _=>true) true fuel 3 [v]=some x):∃n:Int,v= .int .i64 n:=by
 obtain⟨n,e,_⟩:=DataW.trod_int Tryz.underlying3 h;exact⟨n,by simpa using e⟩
theorem each_mem {ts:List TypeId}{xs:List (DataW H×List MemPlace)}{i:Nat}{t:TypeId}{y:DataW H×List MemPlace}(hw:∀k∈DataW.weightsEach Tryz.prog ts (xs.map (·.1)),k≤reachBytes)(ht:ts[i]?=some t)(hy:xs[i]?=some y):∀k∈DataW.weights Tryz.prog t y.1,k≤reachBytes:=
 fun k hk=>hw k (DataW.weights_mem_each ht (by rw[List.getElem?_map,hy];rfl) k hk)
theorem field_at {fs:Array Field}{xs:List (DataW H×List MemPlace)}(hf:∀(i:Nat) (f:Field),fs[i]?=some f→DataW.trod enc Tryz.prog W 0 (fun _=>true) true n f.type ((cs.drop f.offset).take (Tryz.prog.cellsOf f.type))=xs[i]?)(i:Nat)(f:Field)(hi:fs[i]?=some f)(t:TypeId)(o sz:Nat)(ht:f.type=t)(ho:f.offset=o)(hs:Tryz.prog.cellsOf t=sz){y:DataW H×List MemPlace}(hy:xs[i]?=some y)(cs':List Value)(hc:(cs.drop o).take sz=cs'):DataW.trod enc Tryz.prog W 0 (fun _=>true) true n t cs'=some y:=by
 subst ht ho hs hc;exact(hf i f hi).trans hy
theorem weightsAll_mem {e:TypeId}:∀{l:List (DataW H)} {d:DataW H},d∈l→∀n∈d.weights Tryz.prog e,n∈DataW.weightsAll Tryz.prog e l
 |x::l,d,hd,n,hn=>by
  unfold DataW.weightsAll;rw[List.mem_append];rcases List.mem_cons.1 hd with rfl|h
  ·exact .inl hn
  ·exact .inr (weightsAll_mem h n hn)
theorem cells_get (h:w.cells? 0 a n=some cs):∀i,i<n→w.cell? (a.add i)=cs[i]?:=by
 intro i hi;unfold World.cells? at h;rw[if_pos (Nat.zero_le _)]at h;exact mapM_some_get h i i (List.getElem?_range hi)
end
end Go.Proofs.YtlonjggfnleolaaGreatDoor
namespace Go.Proofs.YtlonjggfnleolaaGreatDoor
open Go.RowKit Go.Deep Go.ChangeShapes Go.WideShapes
set_option linter.unusedVariables false
set_option maxRecDepth 20000
variable {fuel:Nat}{v:Value}{cs:List Value}
structure StepsIn (w:World)(a:Option Addr)(n c:Nat):Prop where
 cap:n≤c
 small:n≤140737488355328
 by_:∀i,i<n→∃(g o:Nat) (k x y:Int),a=some ⟨g,o,none⟩∧g<w.heap.size∧w.cell? ⟨g,o+i*3,none⟩=some (.int .i64 k)∧w.cell? ⟨g,o+i*3+1,none⟩=some (.int .i64 x)∧w.cell? ⟨g,o+i*3+2,none⟩=some (.int .i64 y)∧(Lit.int .i64 x).wf=true∧(Lit.int .i64 y).wf=true
structure FaultsIn (w:World)(a:Option Addr)(n c:Nat):Prop where
 cap:n≤c
 small:n≤140737488355328
 by_:∀i,i<n→∃(g o:Nat) (k x:Int) (s:ByteArray),a=some ⟨g,o,none⟩∧g<w.heap.size∧w.cell? ⟨g,o+i*3,none⟩=some (.int .i64 k)∧w.cell? ⟨g,o+i*3+1,none⟩=some (.int .i64 x)∧w.cell? ⟨g,o+i*3+2,none⟩=some (.string s)∧(Lit.int .i64 x).wf=true∧s.size≤140737488351232
section
variable {H:Type}{enc:TypeId×Value→H}{W:World}
theorem int_openW {x:DataW H×List MemPlace}(h:DataW.trod enc Tryz.prog W 0 (fun _=>true) true fuel 3 [v]=some x):∃n:Int,v= .int .i64 n∧(Lit.int .i64 n).wf=true:=by
 obtain⟨n,e,_,e2⟩:=DataW.trod_int Tryz.underlying3 h;exact⟨n,by simpa using e,e2⟩
theorem list3 {α:Type}{l:List α}(h:l.length=3):∃c0 c1 c2,l=[c0,c1,c2]:=by
 match l,h with
 | [c0,c1,c2],_=>exact⟨c0,c1,c2,rfl⟩
theorem step_open {x:DataW H×List MemPlace}(h:DataW.trod enc Tryz.prog W 0 (fun _=>true) true fuel 52 cs=some x):∃k x y:Int,cs=[.int .i64 k,.int .i64 x,.int .i64 y]∧(Lit.int .i64 x).wf=true∧(Lit.int .i64 y).wf=true:=by
 obtain⟨xs,n,_,rfl,hl,hxl,hf⟩:=DataW.trod_struct Tryz.underlying52 h;have e3:Tryz.prog.cellsOf 52=3:=by kernel_rfl
 rw[e3]at hl;have get:∀(l:List (DataW H×List MemPlace)) (m i:Nat),l.length=m→i<m→∃y,l[i]?=some y:=fun l m i a b=>⟨l[i]'(by omega),List.getElem?_eq_getElem _⟩
 have hxl:xs.length=3:=hxl;obtain⟨c0,c1,c2,rfl⟩:=list3 hl;have s3:Tryz.prog.cellsOf 3=1:=by kernel_rfl
 obtain⟨y0,g0⟩:=get xs 3 0 hxl (by omega);obtain⟨y1,g1⟩:=get xs 3 1 hxl (by omega);obtain⟨y2,g2⟩:=get xs 3 2 hxl (by omega);have f0:=field_at hf 0 _ rfl 3 0 1 rfl rfl s3 g0 [c0] rfl;have f1:=field_at hf 1 _ rfl 3 1 1 rfl rfl s3 g1 [c1] rfl;have f2:=field_at hf 2 _ rfl 3 2 1 rfl rfl s3 g2 [c2] rfl;obtain⟨k,rfl⟩:=int_open f0;obtain⟨x,rfl,w1⟩:=int_openW f1;obtain⟨y,rfl,w2⟩:=int_openW f2;exact⟨k,x,y,rfl,w1,w2⟩
theorem fault_open {x:DataW H×List MemPlace}(h:DataW.trod enc Tryz.prog W 0 (fun _=>true) true fuel 70 cs=some x)(hw:∀k∈DataW.weights Tryz.prog 70 x.1,k≤reachBytes):∃(k x:Int) (s:ByteArray),cs=[.int .i64 k,.int .i64 x,.string s]∧(Lit.int .i64 x).wf=true∧s.size≤140737488351232:=by
 obtain⟨xs,n,_,rfl,hl,hxl,hf⟩:=DataW.trod_struct Tryz.underlying70 h;have e3:Tryz.prog.cellsOf 70=3:=by kernel_rfl
 rw[e3]at hl;have hw1:∀k∈DataW.weightsEach Tryz.prog [3,3,9] (xs.map (·.1)),k≤reachBytes:=by
  intro k hk;refine hw k ?_;simp only[DataW.weights,Tryz.underlying70]
  exact hk
 have get:∀(l:List (DataW H×List MemPlace)) (m i:Nat),l.length=m→i<m→∃y,l[i]?=some y:=fun l m i a b=>⟨l[i]'(by omega),List.getElem?_eq_getElem _⟩
 have hxl:xs.length=3:=hxl;obtain⟨c0,c1,c2,rfl⟩:=list3 hl;have s3:Tryz.prog.cellsOf 3=1:=by kernel_rfl
 have s9:Tryz.prog.cellsOf 9=1:=by kernel_rfl
 obtain⟨y0,g0⟩:=get xs 3 0 hxl (by omega);obtain⟨y1,g1⟩:=get xs 3 1 hxl (by omega);obtain⟨y2,g2⟩:=get xs 3 2 hxl (by omega);have f0:=field_at hf 0 _ rfl 3 0 1 rfl rfl s3 g0 [c0] rfl;have f1:=field_at hf 1 _ rfl 3 1 1 rfl rfl s3 g1 [c1] rfl;have f2:=field_at hf 2 _ rfl 9 2 1 rfl rfl s9 g2 [c2] rfl;have w2:=each_mem hw1 (i:=2) rfl g2;obtain⟨k,rfl⟩:=int_open f0;obtain⟨x,rfl,w1⟩:=int_openW f1;obtain⟨s,e1,e2,_⟩:=DataW.trod_string Tryz.underlying9 f2;have e1:c2= .string s:=by simpa using e1
 subst e1;refine⟨k,x,s,rfl,w1,?_⟩;have:=w2 s.data.toList.length (by rw[e2];simp[DataW.weights]);rw[Array.length_toList]at this;unfold reachBytes at this;exact this
theorem steps_open {x:DataW H×List MemPlace}(h:DataW.trod enc Tryz.prog W 0 (fun _=>true) true fuel 47 [v]=some x)(hw:∀k∈DataW.weights Tryz.prog 47 x.1,k≤reachBytes):∃a n c,v= .slice a n c∧StepsIn W a n c:=by
 rcases open_slice Tryz.underlying47 h with⟨hcs,hx⟩|⟨a,len,cap,m,n,D,Pl,hcs,hb,hl,hm,hmm,hx,hel⟩
 ·exact⟨none,0,0,by simpa using hcs,⟨Nat.le_refl _,by omega,fun i hi=>by omega⟩⟩
 ·simp at hcs hmm;subst hcs;subst hmm;have e3:Tryz.prog.cellsOf 52=3:=by kernel_rfl
  have hwt:m*24≤140737488351232:=by
   have e:Tryz.prog.bytesOf 52=24:=by kernel_rfl
   have:=hw ((len+(m-len))*24) (by rw[hx];simp[DataW.weights,Tryz.underlying47,e]);unfold reachBytes at this;have e2:len+(m-len)=m:=by omega
   rw[e2]at this;omega
  refine⟨some a,len,m,rfl,⟨hl,by omega,fun j hj=>?_⟩⟩;obtain⟨cs,hc1,hc2⟩:=hel j (by omega);rw[e3]at hc1;obtain⟨k,x,y,rfl,w1,w2⟩:=step_open hc2;have hg:=cells_get hc1;have ha:a=⟨a.block,a.off,none⟩∧a.block<W.heap.size:=by
   obtain⟨cs0,d1,d2⟩:=hel 0 (by omega);rw[e3]at d1;obtain⟨_,_,_,rfl,_,_⟩:=step_open d2;have h0:=cells_get d1 0 (by omega);have q3:(a.add (0*3)).add 0=a:=by simp[Addr.add]
   rw[q3]at h0;exact cell_addr (h0.trans rfl)
  obtain⟨ha1,ha2⟩:=ha;rw[ha1,add_plain]at hg;refine⟨a.block,a.off,k,x,y,by rw[←ha1],ha2,?_,?_,?_,w1,w2⟩
  ·have:=hg 0 (by omega);rw[add_plain]at this;exact this
  ·have:=hg 1 (by omega);rw[add_plain]at this;exact this
  ·have:=hg 2 (by omega);rw[add_plain]at this;exact this
theorem faults_open {x:DataW H×List MemPlace}(h:DataW.trod enc Tryz.prog W 0 (fun _=>true) true fuel 61 [v]=some x)(hw:∀k∈DataW.weights Tryz.prog 61 x.1,k≤reachBytes):∃a n c,v= .slice a n c∧FaultsIn W a n c:=by
 rcases open_slice Tryz.underlying61 h with⟨hcs,hx⟩|⟨a,len,cap,m,n,D,Pl,hcs,hb,hl,hm,hmm,hx,hel⟩
 ·exact⟨none,0,0,by simpa using hcs,⟨Nat.le_refl _,by omega,fun i hi=>by omega⟩⟩
 ·simp at hcs hmm;subst hcs;subst hmm;have e3:Tryz.prog.cellsOf 70=3:=by kernel_rfl
  have hwt:m*32≤140737488351232:=by
   have e:Tryz.prog.bytesOf 70=32:=by kernel_rfl
   have:=hw ((len+(m-len))*32) (by rw[hx];simp[DataW.weights,Tryz.underlying61,e]);unfold reachBytes at this;have e2:len+(m-len)=m:=by omega
   rw[e2]at this;omega
  refine⟨some a,len,m,rfl,⟨hl,by omega,fun j hj=>?_⟩⟩;obtain⟨cs,hc1,hc2⟩:=hel j (by omega);rw[e3]at hc1;obtain⟨k,x,s,rfl,w1,w2⟩:=fault_open hc2 (fun k hk=>hw k (by
   rw[hx];simp only[DataW.weights,Tryz.underlying61,List.mem_cons,List.mem_append]
   exact .inr (.inl (weightsAll_mem (List.mem_map.2 ⟨j,List.mem_range.2 hj,rfl⟩) k hk))))
  have hg:=cells_get hc1;have ha:a=⟨a.block,a.off,none⟩∧a.block<W.heap.size:=by
   obtain⟨cs0,d1,d2⟩:=hel 0 (by omega);rw[e3]at d1;obtain⟨_,_,_,rfl,_,_⟩:=fault_open d2 (fun k hk=>hw k (by
    rw[hx];simp only[DataW.weights,Tryz.underlying61,List.mem_cons,List.mem_append]
    exact .inr (.inl (weightsAll_mem (List.mem_map.2 ⟨0,List.mem_range.2 (by omega),rfl⟩) k hk))))
   have h0:=cells_get d1 0 (by omega);have q3:(a.add (0*3)).add 0=a:=by simp[Addr.add]
   rw[q3]at h0;exact cell_addr (h0.trans rfl)
  obtain⟨ha1,ha2⟩:=ha;rw[ha1,add_plain]at hg;refine⟨a.block,a.off,k,x,s,by rw[←ha1],ha2,?_,?_,?_,w1,w2⟩
  ·have:=hg 0 (by omega);rw[add_plain]at this;exact this
  ·have:=hg 1 (by omega);rw[add_plain]at this;exact this
  ·have:=hg 2 (by omega);rw[add_plain]at this;exact this
theorem raw_openS {x:DataW H×List MemPlace}(h:DataW.trod enc Tryz.prog W 0 (fun _=>true) true fuel 25 [v]=some x)(hw:∀k∈DataW.weights Tryz.prog 25 x.1,k≤reachBytes):∃xs a n c,v= .slice a n c∧RawIn W a n c xs:=by
 rcases open_ints Tryz.underlying25 Tryz.underlying3 (by kernel_rfl) h with⟨hcs,hx⟩|⟨a,len,cap,zs,hcs,hb,hl,hm,hzl,hx,hel,hwf⟩
 ·have:v= .slice none 0 0:=by simpa using hcs
  subst this;exact⟨[],none,0,0,rfl,⟨rfl,Nat.le_refl _,by omega,fun _ _ _ h=>by omega,fun i hi=>by omega,fun i hi=>by omega⟩⟩
 ·simp at hcs hzl;subst hcs;have hwt:cap*8≤140737488351232:=by
   have e:Tryz.prog.bytesOf 3=8:=by kernel_rfl
   have e3:(lits (H:=H) .i64 (zs.take len)).length+(lits (H:=H) .i64 (zs.drop len)).length=cap:=by
    simp[lits];omega
   have:=hw (cap*8) (by rw[hx];simp only[DataW.weights,Tryz.underlying25,e,e3];exact List.mem_cons_self);unfold reachBytes at this;omega
  have hg:∀i,i<len→(zs.take len).getD i 0=zs.getD i 0:=fun i hi=>by
   simp[List.getD,List.getElem?_take_of_lt hi]
  have ha:1≤len→a=⟨a.block,a.off,none⟩∧a.block<W.heap.size:=fun h1=>by
   have h0:=hel 0 (by omega);have ea:a.add 0=a:=by simp[Addr.add]
   rw[ea]at h0;exact cell_addr h0
  refine⟨zs.take len,some a,len,cap,rfl,⟨by simp;omega,hl,by omega,fun g o' e h1=>?_,fun i hi=>?_,fun i hi=>?_⟩⟩
  ·have h2:=(ha h1).2;cases e;exact h2
  ·obtain⟨h1,h2⟩:=ha (by omega);refine⟨a.block,a.off,by rw[←h1],?_⟩;rw[hg i hi];have:=hel i (by omega);rw[h1,add_plain]at this;exact this
  ·rw[hg i hi];refine hwf _ ?_;have hi2:i<zs.length:=by omega
   have hgz:zs.getD i 0=zs[i]:=by simp[List.getD,List.getElem?_eq_getElem hi2]
   rw[hgz];exact List.getElem_mem hi2
theorem lists_open {x:DataW H×List MemPlace}(h:DataW.trod enc Tryz.prog W 0 (fun _=>true) true fuel 46 [v]=some x)(hw:∀k∈DataW.weights Tryz.prog 46 x.1,k≤reachBytes):∃a n c ls,v= .slice a n c∧LisIn W a n c ls:=by
 rcases open_slice1 Tryz.underlying46 (by kernel_rfl) h with⟨hcs,hx⟩|⟨a,len,cap,m,n,V,D,Pl,hcs,hb,hl,hm,hmm,hx,hel⟩
 ·simp at hcs;exact⟨none,0,0,[],hcs,⟨rfl,Nat.le_refl _,by omega,fun i xs hi=>by simp at hi⟩⟩
 ·simp at hcs hmm;subst hcs;subst hmm;have hwt:m*24≤140737488351232:=by
   have e:Tryz.prog.bytesOf 25=24:=by kernel_rfl
   have:=hw ((len+(m-len))*24) (by rw[hx];simp[DataW.weights,Tryz.underlying46,e]);unfold reachBytes at this;have e2:len+(m-len)=m:=by omega
   rw[e2]at this;omega
  have each:∀i,i<len→∃xs a n c,V i= .slice a n c∧RawIn W a n c xs:=fun i hi=>by
   obtain⟨h1,h2⟩:=hel i (by omega);exact raw_openS h2 (fun k hk=>hw k (by
    rw[hx];simp only[DataW.weights,Tryz.underlying46,List.mem_cons,List.mem_append]
    exact .inr (.inl (weightsAll_mem (List.mem_map.2 ⟨i,List.mem_range.2 hi,rfl⟩) k hk))))
  refine⟨some a,len,m,(List.range len).map (fun i=>if h:i<len then Classical.choose (each i h)else []),rfl,⟨by simp,hl,by omega,fun i xs hi=>?_⟩⟩;rw[List.getElem?_map]at hi;by_cases hil:i<len
  ·rw[List.getElem?_range hil]at hi;simp only[Option.map_some,dif_pos hil]at hi;have hx2:Classical.choose (each i hil)=xs:=Option.some.inj hi;obtain⟨ia,im,ic,e1,e2⟩:=Classical.choose_spec (each i hil);rw[hx2]at e2;have h0:=(hel 0 (by omega)).1;have ea:a.add 0=a:=by simp[Addr.add]
   rw[ea]at h0;obtain⟨q1,q2⟩:=cell_addr h0;refine⟨a.block,a.off,ia,im,ic,by rw[←q1],q2,?_,e2⟩;have h1:=(hel i (by omega)).1;rw[q1,add_plain,e1]at h1;exact h1
  ·rw[List.getElem?_eq_none (by simp;omega)]at hi;cases hi
end
end Go.Proofs.YtlonjggfnleolaaGreatDoor
namespace Go.Proofs.YtlonjggfnleolaaGreatDoor
open Go.RowKit Go.Shelf
set_option linter.unusedVariables false
variable {gs:List Int}{css:List (List Cmd)}{sd:List Nat}{c n i j:Nat}{w:World}{a:Option Addr}
def sdTo (gs:List Int)(css:List (List Cmd))(sd:List Nat)(c:Nat):List Nat:=sd.mapIdx (fun i n=>if i<c then(txI gs css i).length else n)
theorem sdTo_zero (gs:List Int)(css:List (List Cmd))(sd:List Nat):sdTo gs css sd 0=sd:=by
 refine List.ext_getElem? (fun i=>?_);unfold sdTo;rw[List.getElem?_mapIdx];cases sd[i]?<;>simp
theorem sdTo_get (h:sd[c]?=some n):(sdTo gs css sd c)[c]?=some n:=by
 unfold sdTo;rw[List.getElem?_mapIdx,h];simp
theorem sdTo_succ (h:c<sd.length):(sdTo gs css sd c).set c (txI gs css c).length=sdTo gs css sd (c+1):=by
 refine List.ext_getElem? (fun i=>?_);rw[List.getElem?_set];split
 ·rename_i e;subst e;rw[if_pos (by unfold sdTo;rw[List.length_mapIdx];exact h)];unfold sdTo;rw[List.getElem?_mapIdx,List.getElem?_eq_getElem h];simp
 ·rename_i e;unfold sdTo;rw[List.getElem?_mapIdx,List.getElem?_mapIdx];cases sd[i]?with
  |none=>rfl
  |some n=>
   simp only[Option.map_some]
   by_cases h1:i<c
   ·rw[if_pos h1,if_pos (by omega)]
   ·rw[if_neg h1,if_neg (by omega)]
theorem sdTo_rest (hl:sd.length=css.length)(hi:i<css.length):restOf gs css (sdTo gs css sd css.length) i=[]:=by
 unfold restOf sdTo;rw[List.getElem?_mapIdx,List.getElem?_eq_getElem (by omega)];simp only[Option.map_some,if_pos hi,Option.getD_some]
 exact List.drop_eq_nil_of_le (Nat.le_refl _)
section
variable {gs:List Int}{w W:World}{P X sv pt win:Nat}{css:List (List Cmd)}{sd sd':List Nat}{st:List CliQ×List SrvQ}{D:PlD}
theorem Pst.saysAll {W':World}(h:Pst gs w W P X sv pt win css (sdTo gs css sd c) st D)(hc:c<sd.length)(hn:sd[c]?=some n)(hle:n≤(txI gs css c).length)(k:PlayV w W' P X sv pt win (4000*(sdTo gs css sd c).sum+4000*((txI gs css c).drop n).length) (saidJ sv pt win c ((txI gs css c).drop n) st) D):∃st',Pst gs w W' P X sv pt win css (sdTo gs css sd (c+1)) st' D:=by
 have hr:restOf gs css (sdTo gs css sd c) c=(txI gs css c).drop n++[]:=by
  unfold restOf;rw[sdTo_get hn,List.append_nil];rfl
 have h1:=h.says (W':=W') (sdTo_get hn) hr k;rw[List.length_drop,show n+((txI gs css c).length-n)=(txI gs css c).length by omega,sdTo_succ hc]at h1;exact⟨_,h1⟩
theorem Pst.endTold (h:Pst gs w W P X sv pt win css (sdTo gs css sd css.length) st D)(hl:sd.length=css.length)(hw:1≤win){s:CliQ}(hs:st.1[i]?=some s)(hd:∀b,¬upAt st.2 b):Whole (dOf gs i) s.told (csOf css i).length:=by
 have hi:i<css.length:=by rw[←h.cl];exact(List.getElem?_eq_some_iff.1 hs).1
 exact h.sti.end_ (plyOf_ok h.said) hw hs (sdTo_rest hl hi) hd
theorem Pst.noUp (h:Pst gs w W P X sv pt win css sd st D)(hd:∀b,b<sv→¬upAt st.2 b):∀b,¬upAt st.2 b:=fun b hb=>by
 by_cases h1:b<sv
 ·exact hd b h1 hb
 ·obtain⟨u,hu,_⟩:=hb;have:=(List.getElem?_eq_some_iff.1 hu).1;rw[h.sl]at this;omega
theorem Pst.sayB (h:Pst gs w W P X sv pt win css sd' st D)(hi:i<css.length)(hl:D.sd.length=css.length)(hn:D.sd[i]?=some n){g2 c2 g3 c3:Nat}(e2:D.v2= .slice (some ⟨g2,0,none⟩) css.length c2)(e3:D.v3= .slice (some ⟨g3,0,none⟩) css.length c3):W.cell? ⟨P,0,none⟩=some (.pointer (some ⟨X,0,none⟩))∧W.cell? ⟨P,2,none⟩=some (.slice (some ⟨g2,0,none⟩) css.length c2)∧W.cell? ⟨P,3,none⟩=some (.slice (some ⟨g3,0,none⟩) css.length c3)∧W.cell? ⟨g2,i,none⟩=some (.string (mkB (txI gs css i)))∧W.cell? ⟨g3,i,none⟩=some (.int .i64 (n:Int)):=by
 obtain⟨p0,_,p2,p3,_,_⟩:=h.pl.pc;rw[e2]at p2;rw[e3]at p3;obtain⟨g,c,ev,_,k2⟩:=h.cli hi;rw[e2]at ev;cases ev;obtain⟨g',c',ev',_,k3⟩:=h.sdAt hl hn;rw[e3]at ev';cases ev';exact⟨p0,p2,p3,k2,k3⟩
end
def KindAt (w:World)(sa:Option Addr)(j:Nat)(k:Int):Prop:=∃(g o:Nat) (x y:Int),sa=some ⟨g,o,none⟩∧g<w.heap.size∧w.cell? ⟨g,o+j*3,none⟩=some (.int .i64 k)∧w.cell? ⟨g,o+j*3+1,none⟩=some (.int .i64 x)∧w.cell? ⟨g,o+j*3+2,none⟩=some (.int .i64 y)∧(Lit.int .i64 x).wf=true∧(Lit.int .i64 y).wf=true
theorem StepsIn.kind (h:StepsIn w a n c)(hj:j<n):∃k,KindAt w a j k:=by
 obtain⟨g,o,k,x,y,h1⟩:=h.by_ j hj;exact⟨k,g,o,x,y,h1⟩
theorem KindAt.at_ {k:Int}(h:KindAt w a j k):∃(g o:Nat) (x y:Int),a=some ⟨g,o,none⟩∧(Lit.int .i64 x).wf=true∧(Lit.int .i64 y).wf=true∧∀W,Below w.heap.size w W→g<W.heap.size∧W.cell? ⟨g,o+j*3,none⟩=some (.int .i64 k)∧W.cell? ⟨g,o+j*3+1,none⟩=some (.int .i64 x)∧W.cell? ⟨g,o+j*3+2,none⟩=some (.int .i64 y):=by
 obtain⟨g,o,x,y,h1,h2,h3,h4,h5,h6,h7⟩:=h;exact⟨g,o,x,y,h1,h6,h7,fun W hb=>⟨Nat.lt_of_lt_of_le h2 hb.size,(hb.cell (p:=⟨g,_,none⟩) h2).trans h3,(hb.cell (p:=⟨g,_,none⟩) h2).trans h4,(hb.cell (p:=⟨g,_,none⟩) h2).trans h5⟩⟩
theorem FaultsIn.at_ (h:FaultsIn w a n c)(hj:j<n):∃(g o:Nat) (k x:Int) (s:ByteArray),a=some ⟨g,o,none⟩∧(Lit.int .i64 x).wf=true∧s.size≤140737488351232∧∀W,Below w.heap.size w W→g<W.heap.size∧W.cell? ⟨g,o+j*3,none⟩=some (.int .i64 k)∧W.cell? ⟨g,o+j*3+1,none⟩=some (.int .i64 x)∧W.cell? ⟨g,o+j*3+2,none⟩=some (.string s):=by
 obtain⟨g,o,k,x,s,h1,h2,h3,h4,h5,h6,h7⟩:=h.by_ j hj;exact⟨g,o,k,x,s,h1,h6,h7,fun W hb=>⟨Nat.lt_of_lt_of_le h2 hb.size,(hb.cell (p:=⟨g,_,none⟩) h2).trans h3,(hb.cell (p:=⟨g,_,none⟩) h2).trans h4,(hb.cell (p:=⟨g,_,none⟩) h2).trans h5⟩⟩
theorem StepTo.bel {W:World}{P X sv pt win:Nat}(h:StepTo gs w W P X sv pt win css):Below w.heap.size w W:=by
 obtain⟨_,_,_,h,_⟩:=h;exact h.pl.bel
set_option maxHeartbeats 40000000
set_option maxRecDepth 100000
theorem settled_any (ga:Option Addr)(gn gc:Nat)(gs:List Int)(la:Option Addr)(ln lc:Nat)(ls:List (List Int))(sa:Option Addr)(sn sc:Nat)(fa:Option Addr)(fn fc:Nat)(w:World)(hg:RawIn w ga gn gc gs)(hl:LisIn w la ln lc ls)(hs:StepsIn w sa sn sc)(hf:FaultsIn w fa fn fc):Calls Tryz.prog 12 #[.slice ga gn gc,.slice la ln lc,.slice sa sn sc,.slice fa fn fc] w fun e w'=>e= .returned (.bool true)∧Below w.heap.size w w':=by
 have HBg:=hide' (begun_any ga gn gc gs la ln lc ls w hg hl);have HG:=hide' hg;have HSi:=hide' hs;have HFi:=hide' hf;have hsn:=hs.small;have hsc:=hs.cap;have hfn:=hf.small;have hfc:=hf.cap;clear hg hl hs hf;generalize hsv:1+pickN (rawN gs 0) 4=sv at*;generalize hpt:1+pickN (rawN gs 1) 16=pt at*;generalize hwi:1+pickN (rawN gs 2) 6=win at*;have hw1:1≤win:=by omega
 clear hsv hpt hwi;go_enter Tryz.func12,Tryz.ntmps12;go_wp2_with fail
 go_at_call 24;refine HBg.out.mono ?_;rintro e w1 ⟨P,X,css,D0,rfl,hb,hcl⟩;have HS0:Hid (StepTo gs w w1 P X sv pt win css):=⟨_,_,_,hb.start (by omega),hb.sd⟩
 clear hb HBg D0;have hc4:css.length≤4:=by omega
 clear hcl;go_wp2_with fail
 go_loopw [10,11,12,13,14,15,16] (fun i _ _ _ _ _ _ wr=>∃j:Nat,i= .int .i64 (j:Int)∧j≤sn+fn∧Hid (StepTo gs w wr P X sv pt win css)) (fun i _ _ _ _ _ _ _=>sn+fn+1-(intOf i).toNat)
 case atStart=>exact⟨0,rfl,Nat.zero_le _,HS0⟩
 case round=>
  obtain⟨j,rfl,hj,HS⟩:=hrel;clear HS0;by_cases hgo:j<sn∨j<fn
  ·go_upto_region 5 with fail
   go_cut [38] (fun s38 W'=>s38= .bool true∧wr=W')
   case first=>
    as_aux_lemma=>
     by_cases hjs:j<sn
     ·have hjs':(j:Int)<(sn:Int):=by omega
      go_wp2_with fail
      go_meet
      case rel=>exact⟨rfl,rfl⟩
     ·have hjs':¬(j:Int)<(sn:Int):=by omega
      have hjf':(j:Int)<(fn:Int):=by omega
      go_wp2_with fail
      go_meet
      case rel=>exact⟨rfl,rfl⟩
   case rest=>
    as_aux_lemma=>
     obtain⟨rfl,hwc⟩:=hcut
     subst hwc
     go_upto_region 7 with fail
     go_cut [52] (fun s52 W'=>Hid (∃b:Bool,s52= .bool b∧(b=true→j<sn))∧wr=W')
     case first=>
      as_aux_lemma=>
       by_cases hjs:j<sn
       ·have hjs':(j:Int)<(sn:Int):=by omega
        obtain⟨k,hK⟩:=HSi.out.kind hjs;obtain⟨sg,so,x,y,hsa,hxw,hyw,hZ⟩:=hK.at_;subst hsa;obtain⟨zl,z0,z1,z2⟩:=hZ _ HS.out.bel;clear hZ;go_wp2_with fail
        go_meet
        case rel=>exact⟨⟨_,rfl,fun _=>hjs⟩,rfl⟩
       ·have hjs':¬(j:Int)<(sn:Int):=by omega
        go_wp2_with fail
        go_meet
        case rel=>exact⟨⟨_,rfl,fun h=>(by cases h)⟩,rfl⟩
     case rest=>
      as_aux_lemma=>
       obtain⟨hb,hwc⟩:=hcut
       subst hwc
       go_wp2_with fail
       go_cut [11,12,13,14] (fun _ _ _ _ W'=>Hid (StepTo gs w W' P X sv pt win css))
       case first=>
        as_aux_lemma=>
         obtain⟨b,rfl,hb2⟩:=hb.out
         cases b with
         |false=>
          go_wp2_with fail
          go_meet
          case rel=>exact HS
         |true=>
          as_aux_lemma=>
           have hjs:=hb2 rfl
           obtain⟨k,hK⟩:=HSi.out.kind hjs
           obtain⟨sg,so,x,y,hsa,hxw,hyw,hZ⟩:=hK.at_
           subst hsa
           have HZ:=hide' hZ
           clear hK hZ
           have hjs':(j:Int)<(sn:Int):=by omega
           obtain⟨sd,st,D,hP,hsd⟩:=HS.out
           obtain⟨zl,z0,z1,z2⟩:=HZ.out _ hP.pl.bel
           obtain⟨a1,c1,a2,c2,a3,c3,a5,c5,e1,f1,_⟩:=hP.forms (by rw[hsd];exact hP.lsd)
           obtain⟨p0,p1,_,_,_,pl⟩:=hP.pl.pc
           rw[e1]at p1
           have hs1:=hP.s14
           have HPk:=hide' (fun W=>pick_big x sv W hxw (by omega) (by omega))
           have hn1:=pickN_lt x sv (by omega)
           generalize pickN x sv=n1 at*
           have hn1':(n1:Int)<(sv:Int):=by omega
           have HPP:=hide' hP
           have HDS:=hide' hsd
           clear hP hsd HS
           go_wp2_with fail
           go_quiet ((go_at_call 17;exact Calls.quiet_of_same (HPk.out _)))
           have HP1:=hide' (HPP.out.below (below_drewN (Below.refl _ _) nq))
           generalize wr.drewN nq=W1 at*
           clear p0 p1 pl z0 z1 z2 zl HPP HPk
           obtain⟨p0,_,_,_,_,pl⟩:=HP1.out.pl.pc
           obtain⟨u,hu⟩:∃u,st.2[n1]?=some u:=⟨_,List.getElem?_eq_getElem (by rw[HP1.out.sl];exact hn1)⟩
           have HSe:=hide' (HP1.out.callSent hu)
           have HU:=hide' hu
           clear hu
           go_wp2_with fail
           go_at_call 30
           refine HSe.out.mono ?_
           rintro e w2 ⟨rfl,h2⟩
           have HP2:=hide' h2
           clear h2 HSe HP1 p0 pl
           obtain⟨_,p1,_,_,_,pl⟩:=HP2.out.pl.pc
           rw[e1]at p1
           obtain⟨s,g1,c1',hsS,ev,hgl,hgc⟩:=HP2.out.srv hn1
           rw[e1]at ev
           cases ev
           have HWk:=hide' (HP2.out.callWorks HU.out hsS)
           generalize mkB u.sent=tx at*
           go_wp2_with fail
           go_at_call 31
           refine HWk.out.mono ?_
           rintro e w3 ⟨rfl,s',h3,hs',hb',hm',hl'⟩
           clear HP2 HWk p1 pl hgl hgc
           obtain⟨ma,mc,em,hmc,hmcell,hbl,hmm⟩:=h3.srvM hs'
           obtain⟨p0,p1,_,_,_,pl⟩:=h3.pl.pc
           obtain⟨s2,g2,c2',hs2,ev,hgl,hgc⟩:=h3.srv hn1
           have e1':({D with S:=D.S.set n1 s'}:PlD).v1= .slice (some ⟨g1,0,none⟩) sv c1:=e1
           rw[e1']at ev p1
           cases ev
           have hs2':s2=s':=by
            rw[show({D with S:=D.S.set n1 s'}:PlD).S=D.S.set n1 s' from rfl,hs']at hs2;cases hs2;rfl
           subst hs2'
           rw[em]at hmcell
           have HP3:=hide' h3
           have HM:=hide' (And.intro hm' (And.intro hmm (And.intro hs' em)))
           have hDS:({D with S:=D.S.set n1 s2}:PlD).sd=sd:=HDS.out
           generalize hDD:({D with S:=D.S.set n1 s2}:PlD)=DD at*
           have HDD:=hide' (And.intro hDS (And.intro e1' hDD))
           obtain⟨tl,_,_,t2⟩:=HZ.out w3 h3.pl.bel
           clear h3 hm' hmm hs' em hs2 hDS e1' e1 hDD HDS hb'
           generalize hmk:s2.made.length=mk at*
           have HMk:=hide' hmk
           clear hmk
           by_cases hz:mk=0
           ·subst hz;have HS:Hid (StepTo gs w w3 P X sv pt win css):=⟨_,_,_,HP3.out,HDD.out.1⟩
            clear HP3;go_wp2_with fail
            go_meet
            case rel=>exact HS
           ·have hz':(0:Int)<(mk:Int):=by omega
            have HPk:=hide' (fun W=>pick_big y mk W hyw (by omega) (by omega));have hq:=pickN_lt y mk (by omega);generalize pickN y mk=q at*;obtain⟨m,hqm⟩:∃m,s2.made[q]?=some m:=⟨_,List.getElem?_eq_getElem (by rw[HMk.out];exact hq)⟩
            obtain⟨mg,ema,hmgl,hmgc⟩:=HM.out.2.1 q m hqm;subst ema;have hq':(q:Int)<(mk:Int):=by omega
            have hm47:=HM.out.1 m (List.mem_of_getElem? hqm);have HC:=hide' ((HP3.out.below (Below.refl _ _).drew).callAnswer hn1 m (by omega));have HT8:Hid (∀W',(∃st',Pst gs w W' P X sv pt win css sd st' DD)→StepTo gs w W' P X sv pt win css∧(W'.cell? ⟨P,0,none⟩=some (.pointer (some ⟨X,0,none⟩))∧W'.cell? ⟨P,1,none⟩=some (.slice (some ⟨g1,0,none⟩) sv c1)∧W'.cell? ⟨g1,n1,none⟩=some (.pointer (some ⟨s2.b,0,none⟩))∧W'.cell? ⟨s2.b,2,none⟩=some (.slice (some ⟨mg,0,none⟩) mk mc)∧W'.cell? ⟨mg,q,none⟩=some (.string m))∧W'.cell? ⟨sg,so+j*3+2,none⟩=some (.int .i64 y)):=fun W' ⟨st',h⟩=>by
             have hS2:DD.S[n1]?=some s2:=by rw[←HDD.out.2.2];exact HM.out.2.2.1
             have k1:=h.srvB hn1 hS2 hqm (g1:=g1) (c1:=c1) (mg:=mg) (mc:=mc) HDD.out.2.1 (by rw[HMk.out];exact HM.out.2.2.2);rw[HMk.out]at k1;have k2:=HZ.out W' h.pl.bel;exact⟨⟨_,_,_,h,HDD.out.1⟩,⟨k1.1,k1.2.1,k1.2.2.1,k1.2.2.2.1,k1.2.2.2.2.1⟩,k2.2.2.2⟩
            clear HP3 HM hqm;go_wp2_with fail
            go_region_held3 (fun W'=>W'.cell? ⟨P,0,none⟩=some (.pointer (some ⟨X,0,none⟩))∧W'.cell? ⟨P,1,none⟩=some (.slice (some ⟨g1,0,none⟩) sv c1)∧W'.cell? ⟨g1,n1,none⟩=some (.pointer (some ⟨s2.b,0,none⟩))∧W'.cell? ⟨s2.b,2,none⟩=some (.slice (some ⟨mg,0,none⟩) mk mc)∧W'.cell? ⟨mg,q,none⟩=some (.string m)∧W'.cell? ⟨sg,so+j*3+2,none⟩=some (.int .i64 y)) (go_keep) (first
             |(go_at_call 17;refine(HPk.out _).mono ?_;rintro e w7 ⟨rfl,hw7⟩;subst hw7)
             |(go_at_call 32;refine HC.out.mono ?_;rintro e Wt ⟨⟨cc,rfl⟩,h8⟩;have h9:=HT8.out Wt h8;have HS:=hide' h9.1;have x0:=h9.2.1.1;have x1:=h9.2.1.2.1;have x2:=h9.2.1.2.2.1;have x3:=h9.2.1.2.2.2.1;have x4:=h9.2.1.2.2.2.2;have r2:=h9.2.2;clear h8 h9)
             |fail)
            rename_i hHeld;clear hHeld x0 x1 x2 x3 x4 r2 t2 tl p0 p1 pl hgl hgc hmgl hmgc hmcell hbl HC HT8 HPk;go_wp2_with fail
            go_meet
            case rel=>exact HS
       case rest=>
        as_aux_lemma=>
         have HS2:=hcut
         clear hcut HS hb
         go_upto_region 14 with fail
         generalize wc=W4 at*
         go_cut [131] (fun s131 W'=>Hid (∃b:Bool,s131= .bool b∧(b=true→j<sn∧KindAt w sa j 1))∧W4=W')
         case first=>
          as_aux_lemma=>
           by_cases hjs:j<sn
           ·have hjs':(j:Int)<(sn:Int):=by omega
            obtain⟨k,hK⟩:=HSi.out.kind hjs;have hK0:=hK;obtain⟨sg,so,x,y,hsa,hxw,hyw,hZ⟩:=hK.at_;subst hsa;obtain⟨zl,z0,z1,z2⟩:=hZ _ HS2.out.bel;clear hZ;by_cases hk:k=1
            ·subst hk;go_wp2_with fail
             go_meet
             case rel=>exact⟨⟨_,rfl,fun _=>⟨hjs,hK0⟩⟩,rfl⟩
            ·have hk':(k==1)=false:=by rw[beq_eq_false_iff_ne];exact hk
             go_wp2_with fail
             go_meet
             case rel=>exact⟨⟨_,rfl,fun h=>(by cases h)⟩,rfl⟩
           ·have hjs':¬(j:Int)<(sn:Int):=by omega
            go_wp2_with fail
            go_meet
            case rel=>exact⟨⟨_,rfl,fun h=>(by cases h)⟩,rfl⟩
         case rest=>
          as_aux_lemma=>
           obtain⟨hb,hwc⟩:=hcut
           subst hwc
           go_wp2_with fail
           go_cut [] (fun W'=>Hid (StepTo gs w W' P X sv pt win css))
           case first=>
            as_aux_lemma=>
             obtain⟨b,rfl,hb2⟩:=hb.out
             cases b with
             |false=>
              go_wp2_with fail
              go_meet
              case rel=>exact HS2
             |true=>
              as_aux_lemma=>
               obtain⟨hjs,hK⟩:=hb2 rfl
               have hjs':(j:Int)<(sn:Int):=by omega
               obtain⟨sg,so,x,y,hsa,hxw,hyw,hZ⟩:=hK.at_
               subst hsa
               obtain⟨zl,z0,z1,z2⟩:=hZ _ HS2.out.bel
               obtain⟨sd,st,D,hP,hsd⟩:=HS2.out
               have HSt:=hide' (step_say hP hsd x y hxw hyw)
               clear hP hsd hZ
               go_wp2_with fail
               go_at_call 25
               refine HSt.out.mono ?_
               rintro e w8 ⟨rfl,h3⟩
               have HS:=hide' h3
               clear h3
               go_wp2_with fail
               go_meet
               case rel=>exact HS
           case rest=>
            as_aux_lemma=>
             have HS:=hcut
             clear hcut HS2 hb
             generalize wc=W5 at*
             go_upto_region 16 with fail
             go_cut [141] (fun s141 W'=>Hid (∃b:Bool,s141= .bool b∧(b=true→j<fn))∧W5=W')
             case first=>
              as_aux_lemma=>
               go_wp2_with fail
               go_meet
               case rel=>exact⟨⟨decide (j<fn),rfl,fun h=>of_decide_eq_true h⟩,rfl⟩
             case rest=>
              as_aux_lemma=>
               obtain⟨hb,hwc⟩:=hcut
               subst hwc
               go_wp2_with fail
               go_cut [15] (fun _ W'=>Hid (StepTo gs w W' P X sv pt win css))
               case first=>
                as_aux_lemma=>
                 obtain⟨b,rfl,hb2⟩:=hb.out
                 cases b with
                 |false=>
                  go_wp2_with fail
                  go_meet
                  case rel=>exact HS
                 |true=>
                  as_aux_lemma=>
                   obtain⟨sd,st,D,hP,hsd⟩:=HS.out
                   obtain⟨fg,fo,fk,fx,fb,hfa,hfw,hfs,hZ⟩:=HFi.out.at_ (hb2 rfl)
                   subst hfa
                   have HZ:=hide' hZ
                   clear hZ
                   have hjf':(j:Int)<(fn:Int):=by have:=hb2 rfl;omega
                   obtain⟨zl,z0,z1,z2⟩:=HZ.out _ hP.pl.bel
                   obtain⟨a1,c1,a2,c2,a3,c3,a5,c5,e1,f1,_⟩:=hP.forms (by rw[hsd];exact hP.lsd)
                   obtain⟨p0,p1,_,_,_,pl⟩:=hP.pl.pc
                   rw[e1]at p1
                   have hs1:=hP.s14
                   have HPk:=hide' (fun W=>pick_big fx sv W hfw (by omega) (by omega))
                   have hn2:=pickN_lt fx sv (by omega)
                   generalize pickN fx sv=n2 at*
                   have HPP:=hide' hP
                   have HDS:=hide' hsd
                   clear hP hsd e1 HS
                   go_wp2_with fail
                   go_quiet ((go_at_call 17;exact Calls.quiet_of_same (HPk.out _)))
                   have HP1:=hide' (HPP.out.below (below_drewN (Below.refl _ _) nq))
                   generalize W5.drewN nq=Wu at*
                   clear p0 p1 pl z0 z1 z2 zl HPP HPk
                   obtain⟨p0,_,_,_,_,pl⟩:=HP1.out.pl.pc
                   obtain⟨yl,y0,_,y2⟩:=HZ.out _ HP1.out.pl.bel
                   by_cases hk1:fk=1
                   ·subst hk1;have HC:=hide' (HP1.out.callDown hn2);have HT8:Hid (∀W',(∃st',Pst gs w W' P X sv pt win css sd st' D∧∀b,upAt st'.2 b→upAt st.2 b∧b≠n2)→StepTo gs w W' P X sv pt win css):=fun W' ⟨st',h,_⟩=>⟨_,_,_,h,HDS.out⟩
                    clear HP1;go_wp2_with fail
                    go_at_call 33;refine HC.out.mono ?_;rintro e w8 ⟨⟨cc,rfl⟩,h8⟩;have HS:=hide' (HT8.out w8 h8);clear h8;go_wp2_with fail
                    go_meet
                    case rel=>exact HS
                   ·by_cases hk2:fk=2
                    ·subst hk2;have HC:=hide' (HP1.out.callUp hn2);have HT8:Hid (∀W',(∃st',Pst gs w W' P X sv pt win css sd st' D)→StepTo gs w W' P X sv pt win css):=fun W' ⟨st',h⟩=>⟨_,_,_,h,HDS.out⟩
                     clear HP1;go_wp2_with fail
                     go_at_call 34;refine HC.out.mono ?_;rintro e w8 ⟨⟨cc,rfl⟩,h8⟩;have HS:=hide' (HT8.out w8 h8);clear h8;go_wp2_with fail
                     go_meet
                     case rel=>exact HS
                    ·by_cases hk3:fk=3
                     ·subst hk3;have HC:=hide' ((HP1.out.below (Below.refl _ _).drew).callAnswer hn2 fb (by omega));have HT8:Hid (∀W',(∃st',Pst gs w W' P X sv pt win css sd st' D)→StepTo gs w W' P X sv pt win css∧W'.cell? ⟨P,0,none⟩=some (.pointer (some ⟨X,0,none⟩))∧W'.cell? ⟨fg,fo+j*3+2,none⟩=some (.string fb)):=fun W' ⟨st',h⟩=>⟨⟨_,_,_,h,HDS.out⟩,h.pl.pc.1,(HZ.out _ h.pl.bel).2.2.2⟩
                      go_wp2_with fail
                      go_region_held3 (fun W'=>W'.cell? ⟨P,0,none⟩=some (.pointer (some ⟨X,0,none⟩))∧W'.cell? ⟨fg,fo+j*3+2,none⟩=some (.string fb)) (go_keep) (first
                       |(go_at_call 32;refine HC.out.mono ?_;rintro e w8 ⟨⟨cc,rfl⟩,h8⟩;have h9:=HT8.out w8 h8;have HS:=hide' h9.1;have x8:=h9.2.1;have x9:=h9.2.2;clear h8 h9)
                       |fail)
                      rename_i hHeld;clear hHeld x8 x9 p0 y0 y2 HC HT8 HP1;go_wp2_with fail
                      go_meet
                      case rel=>exact HS
                     ·have HS:Hid (StepTo gs w Wu P X sv pt win css):=⟨_,_,_,HP1.out,HDS.out⟩
                      have hb1:(fk==1)=false:=by rw[beq_eq_false_iff_ne];exact hk1
                      have hb3:(fk==2)=false:=by rw[beq_eq_false_iff_ne];exact hk2
                      have hb4:(fk==3)=false:=by rw[beq_eq_false_iff_ne];exact hk3
                      clear HP1;go_wp2_with fail
                      go_meet
                      case rel=>exact HS
               case rest=>
                as_aux_lemma=>
                 have HS3:=hcut
                 clear hcut HS hb
                 generalize wc=W6 at*
                 obtain⟨sd9,st9,D9,hP9,hsd9⟩:=HS3.out
                 have HW:=hide' (whole_any hP9 ga gn gc HG.out)
                 have HS9:Hid (∀W',Pst gs w W' P X sv pt win css sd9 st9 D9→StepTo gs w W' P X sv pt win css):=fun W' h=>⟨_,_,_,h,hsd9⟩
                 clear hP9 hsd9
                 go_wp2_with fail
                 go_at_call 35
                 refine HW.out.mono ?_
                 rintro e w9 ⟨rfl,h9⟩
                 have HS10:=hide' (HS9.out w9 h9)
                 clear h9 HW HS9 HS3
                 go_wp2_with fail
                 go_roundw
                 case rel=>exact⟨j+1,by go_num,by omega,HS10⟩
                 case measure=>simp[intOf];omega
  ·have hjs':¬(j:Int)<(sn:Int):=by omega
   have hjf':¬(j:Int)<(fn:Int):=by omega
   clear hj hgo;obtain⟨sd,st0,D,hP,hsd⟩:=HS.out;obtain⟨a1,c1,a2,c2,a3,c3,a5,c5,e1,f1,e2,f2,e3,f3,e5,f5⟩:=hP.forms (by rw[hsd];exact hP.lsd);have hs1:=hP.s14;have HP:=hide' hP;have HDS:=hide' (And.intro hsd (And.intro hP.lsd hP.sle));have HE:=hide' (And.intro e1 (And.intro e2 (And.intro e3 e5)));clear hP hsd e1 e2 e3 e5 HS HSi HFi hsn hsc hfn hfc;go_wp2_with fail
   go_loopw [17] (fun i wr=>∃c:Nat,i= .int .i64 (c:Int)∧c≤css.length∧Hid (∃st,Pst gs w wr P X sv pt win css (sdTo gs css sd c) st D)) (fun i _=>css.length-(intOf i).toNat)
   case atStart=>exact⟨0,rfl,Nat.zero_le _,⟨st0,(by rw[sdTo_zero];exact HP.out)⟩⟩
   case round=>
    as_aux_lemma=>
     obtain⟨c,rfl,hc,st,hPc⟩:=hrel
     clear HP
     obtain⟨p0,_,p2,p3,_,pl⟩:=hPc.pl.pc
     rw[HE.out.2.1]at p2
     rw[HE.out.2.2.1]at p3
     by_cases hlt:c<css.length
     ·have hlt':(c:Int)<(css.length:Int):=by omega
      obtain⟨n,hn⟩:∃n,sd[c]?=some n:=⟨_,List.getElem?_eq_getElem (by rw[HDS.out.2.1];exact hlt)⟩
      have hnle:=HDS.out.2.2 c n hn;obtain⟨g2,c2',ev2,hg2l,hg2c⟩:=hPc.cli hlt;rw[HE.out.2.1]at ev2;cases ev2;have hdl:D.sd.length=css.length:=by rw[HDS.out.1];exact HDS.out.2.1
      have hdn:D.sd[c]?=some n:=by rw[HDS.out.1];exact hn
      obtain⟨g3,c3',ev3,hg3l,hg3c⟩:=hPc.sdAt hdl hdn;rw[HE.out.2.2.1]at ev3;cases ev3;have htl:=hPc.said.size' c;have hsum:=hPc.sum;have hTs:(mkB (txI gs css c)).size=(txI gs css c).length:=mk_size _;obtain⟨s0,hs0⟩:∃s,st.1[c]?=some s:=⟨_,List.getElem?_eq_getElem (by rw[hPc.cl];exact hlt)⟩
      have hex:(mkB (txI gs css c)).extract n (mkB (txI gs css c)).size=mkB ((txI gs css c).drop n):=mk_drop _ _;have hxl:((mkB (txI gs css c)).extract n (mkB (txI gs css c)).size).size=((txI gs css c).drop n).length:=by rw[hex,mk_size]
      have hxd:((mkB (txI gs css c)).extract n (mkB (txI gs css c)).size).data.toList=(txI gs css c).drop n:=by rw[hex];simp[mkB]
      have hdd:((txI gs css c).drop n).length≤15000:=by rw[List.length_drop];omega
      have HSy:=hide' (PlayV.callSay (hPc.below (Below.refl _ _).drew).pl hs0 ((mkB (txI gs css c)).extract n (mkB (txI gs css c)).size) (by omega));have HN:Hid (∀W',PlayV w W' P X sv pt win (4000*(sdTo gs css sd c).sum+4000*((mkB (txI gs css c)).extract n (mkB (txI gs css c)).size).size) (saidJ sv pt win c ((mkB (txI gs css c)).extract n (mkB (txI gs css c)).size).data.toList st) D→(∃st,Pst gs w W' P X sv pt win css (sdTo gs css sd (c+1)) st D)∧(W'.cell? ⟨P,0,none⟩=some (.pointer (some ⟨X,0,none⟩))∧W'.cell? ⟨P,2,none⟩=some (.slice (some ⟨g2,0,none⟩) css.length c2)∧W'.cell? ⟨P,3,none⟩=some (.slice (some ⟨g3,0,none⟩) css.length c3)∧W'.cell? ⟨g2,c,none⟩=some (.string (mkB (txI gs css c)))∧W'.cell? ⟨g3,c,none⟩=some (.int .i64 (n:Int)))):=fun W' k=>by
       rw[hxl,hxd]at k;obtain⟨st',k2⟩:=hPc.saysAll (by rw[HDS.out.2.1];exact hlt) hn hnle k;exact⟨⟨st',k2⟩,k2.sayB hlt hdl hdn HE.out.2.1 HE.out.2.2.1⟩
      have hnT:(n:Int)≤((mkB (txI gs css c)).size:Int):=by omega
      have hnT2:n≤(mkB (txI gs css c)).size:=by omega
      have hTb:(mkB (txI gs css c)).size≤15000:=by omega
      clear hPc hs0 hex hxl hxd hdd hTs htl hnle hdl hdn hn hsum;generalize mkB (txI gs css c)=T at*;go_wp2_with fail
      go_region_held3 (fun W'=>W'.cell? ⟨P,0,none⟩=some (.pointer (some ⟨X,0,none⟩))∧W'.cell? ⟨P,2,none⟩=some (.slice (some ⟨g2,0,none⟩) css.length c2)∧W'.cell? ⟨P,3,none⟩=some (.slice (some ⟨g3,0,none⟩) css.length c3)∧W'.cell? ⟨g2,c,none⟩=some (.string T)∧W'.cell? ⟨g3,c,none⟩=some (.int .i64 (n:Int))) (go_keep) (first
       |(go_at_call 28;refine HSy.out.mono ?_;rintro e w5 ⟨rfl,h5⟩;have h6:=HN.out w5 h5;have HP5:=hide' h6.1;have x0:=h6.2.1;have x1:=h6.2.2.1;have x2:=h6.2.2.2.1;have x3:=h6.2.2.2.2.1;have x4:=h6.2.2.2.2.2;clear h5 h6)
       |fail)
      rename_i hHeld;clear hHeld x0 x1 x2 x3 x4 p0 p2 p3 pl HSy HN hg2c hg3c;go_wp2_with fail
      go_roundw;case rel=>exact⟨c+1,by go_num,by omega,HP5⟩
      case measure=>simp[intOf];omega
     ·have hlt':¬(c:Int)<(css.length:Int):=by omega
      have hcl:c=css.length:=by omega
      subst hcl;have HP:=hide' hPc;clear hPc;go_wp2_with fail
      clear p0 p2 p3 pl;go_loopw [18] (fun i wr=>∃o:Nat,i= .int .i64 (o:Int)∧o≤sv∧Hid (∃st,Pst gs w wr P X sv pt win css (sdTo gs css sd css.length) st D∧∀b,b<o→¬upAt st.2 b)) (fun i _=>sv-(intOf i).toNat)
      case atStart=>exact⟨0,rfl,Nat.zero_le _,⟨st,HP.out,fun b hb=>absurd hb (Nat.not_lt_zero _)⟩⟩
      case round=>
       as_aux_lemma=>
        clear HP
        obtain⟨o,rfl,ho,st,hPc,hdn⟩:=hrel
        obtain⟨p0,p1,_,_,_,pl⟩:=hPc.pl.pc
        rw[HE.out.1]at p1
        by_cases hlt:o<sv
        ·have hlo':(o:Int)<(sv:Int):=by omega
         have HC:=hide' (hPc.callDown hlt);have HDn:=hide' hdn;clear hPc hdn;go_wp2_with fail
         go_at_call 33;refine HC.out.mono ?_;rintro e w5 ⟨⟨cc,rfl⟩,st5,h5,h6⟩;have HP5:Hid (∃st,Pst gs w w5 P X sv pt win css (sdTo gs css sd css.length) st D∧∀b,b<o+1→¬upAt st.2 b):=⟨st5,h5,fun b hb hu=>by
          obtain⟨k1,k2⟩:=h6 b hu;exact HDn.out b (by omega) k1⟩
         clear h5 h6 HC HDn p0 p1 pl;go_wp2_with fail
         go_roundw;case rel=>exact⟨o+1,by go_num,by omega,HP5⟩
         case measure=>simp[intOf];omega
        ·have hlo':¬(o:Int)<(sv:Int):=by omega
         have HAll:=hide' (hPc.noUp (fun b hb=>hdn b (by omega)));have HP:=hide' hPc;clear hPc hdn;go_wp2_with fail
         clear p0 p1 pl;go_loopw [19,20,21,22,23] (fun i _ _ _ _ wr=>∃c:Nat,i= .int .i64 (c:Int)∧c≤css.length∧Hid (Pst gs w wr P X sv pt win css (sdTo gs css sd css.length) st D)) (fun i _ _ _ _ _=>css.length-(intOf i).toNat)
         case atStart=>exact⟨0,rfl,Nat.zero_le _,HP⟩
         case round=>
          as_aux_lemma=>
           clear HP
           obtain⟨c,rfl,hc,HQ⟩:=hrel
           obtain⟨p0,_,p2,_,_,pl⟩:=HQ.out.pl.pc
           rw[HE.out.2.1]at p2
           by_cases hlt2:c<css.length
           ·have hlt2':(c:Int)<(css.length:Int):=by omega
            obtain⟨s,hs⟩:∃s,st.1[c]?=some s:=⟨_,List.getElem?_eq_getElem (by rw[HQ.out.cl];exact hlt2)⟩
            have hwh:=HQ.out.endTold HDS.out.2.1 hw1 hs HAll.out;have HT:=hide' (HQ.out.pl.callTold hs);have hts:=HQ.out.pl.sizes.1 s (List.mem_of_getElem? hs);have hsum:=HQ.out.sum;have HRj:Hid (∀W,Below w.heap.size w W→Calls Tryz.prog 37 #[.slice ga gn gc,.int .i64 (3+(c:Int))] W fun e w'=>e= .returned (.int .i64 (rawN gs (3+c)))∧w'=W):=fun W hW=>by
             have h:=raw_any ga gn gc gs (3+c) W (HG.out.later hW) (by omega);rw[show((3+c:Nat):Int)=3+(c:Int)by omega]at h;exact h
            have HPj:=hide' (fun W=>pick_big (rawN gs (3+c)) 3 W (rawN_wf HG.out _) (by omega) (by omega));have hp3:=pickN_lt (rawN gs (3+c)) 3 (by omega);have hD:((dOf gs c:Nat):Int)=1+(pickN (rawN gs (3+c)) 3:Int):=by unfold dOf;omega
            rw[hD]at hwh;have HA:=hide' (fun W=>answers_any (1+(pickN (rawN gs (3+c)) 3:Int)) (mkB s.told) (csOf css c).length W (by rw[show(mkB s.told).data.toList=s.told by simp[mkB]];exact hwh) (by rw[mk_size];omega));obtain⟨m1,m2⟩:=HQ.out.many hlt2;have HM:=hide' (And.intro m1 m2);generalize (csOf css c).length=mm at*;generalize pickN (rawN gs (3+c)) 3=p at*;generalize mkB s.told=tx at*;clear hwh hD m1 m2 hts hsum;go_wp2_with fail
            go_at_call 26;refine HT.out.mono ?_;rintro e w1 ⟨rfl,hp1⟩;have HP1:=hide' (HQ.out.same hp1);clear hp1 HQ HT p2 p0 pl;go_wp2_with fail
            go_at_call 37;refine(HRj.out _ HP1.out.pl.bel).mono ?_;rintro e w2 ⟨rfl,hw2⟩;subst hw2;go_wp2_with fail
            go_at_call 17;refine(HPj.out _).mono ?_;rintro e w1 ⟨rfl,hw1'⟩;subst hw1';go_wp2_with fail
            go_at_call 36;refine(HA.out _).mono ?_;rintro e w3 ⟨rfl,hb3⟩;have HP3:=hide' (HP1.out.below hb3);clear hb3 HP1;obtain⟨g5,c5',ev5,hc5,hg5,hcell⟩:=HP3.out.pl.cellsAt (i:=4) (n:=css.length) (j:=c) rfl HM.out.2 HM.out.1;change D.v5=_ at ev5;obtain⟨_,_,_,_,p5,pl⟩:=HP3.out.pl.pc;rw[ev5]at p5;clear ev5;go_wp2_with fail
            go_roundw;case rel=>exact⟨c+1,by go_num,by omega,HP3⟩
            case measure=>simp[intOf];omega
           ·have hlt2':¬(c:Int)<(css.length:Int):=by omega
            have HB:=hide' HQ.out.pl.bel;clear HQ;go_wp2_with fail
            go_ret;exact⟨rfl,HB.out⟩
end Go.Proofs.YtlonjggfnleolaaGreatDoor
