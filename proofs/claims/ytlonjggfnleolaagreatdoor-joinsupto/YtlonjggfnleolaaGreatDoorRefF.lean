import Derived.Test.YtlonjggfnleolaaGreatDoorRefD
namespace Go.Proofs.YtlonjggfnleolaaGreatDoor
open Go.RowKit
set_option linter.unusedVariables false
variable {bs:List UInt8}{s:WS}{lo k p:Nat}{acc:List ByteArray}
theorem expectW_short {c:UInt8}(h:s.short=true)(hw:s.wrong=false):(expectW bs c s).short=true∧(expectW bs c s).wrong=false:=by
 unfold expectW;have:(s.look bs.length).short=true:=by simp[WS.look,h]
 rw[if_pos (by rw[this];rfl)];exact⟨this,hw⟩
theorem countW_short {hi:Nat}(h:s.short=true)(hw:s.wrong=false):(countW bs lo hi s).2.short=true∧(countW bs lo hi s).2.wrong=false:=by
 unfold countW;have:(s.look bs.length).short=true:=by simp[WS.look,h]
 rw[if_pos (by rw[this];rfl)];exact⟨this,hw⟩
theorem textW_short {n:Nat}(h:s.short=true)(hw:s.wrong=false):(textW bs n s).2.short=true∧(textW bs n s).2.wrong=false:=by
 unfold textW;rw[if_pos (by rw[h];simp)];exact⟨h,hw⟩
theorem oneW_short (h:s.short=true)(hw:s.wrong=false):(oneW bs s).2.short=true∧(oneW bs s).2.wrong=false:=by
 obtain⟨a1,a2⟩:=expectW_short (bs:=bs) (c:=36) h hw;obtain⟨b1,b2⟩:=countW_short (bs:=bs) (lo:=0) (hi:=40) a1 a2;obtain⟨c1,c2⟩:=textW_short (bs:=bs) (n:=(countW bs 0 40 (expectW bs 36 s)).1) b1 b2;exact expectW_short c1 c2
theorem textsW_short:∀(k:Nat) (s:WS) (acc:List ByteArray),s.short=true→s.wrong=false→(textsW bs k s acc).2.short=true∧(textsW bs k s acc).2.wrong=false:=by
 intro k;induction k with
 |zero=>intro s acc h hw;exact⟨h,hw⟩
 |succ k ih=>intro s acc h hw;obtain⟨a,b⟩:=oneW_short (bs:=bs) h hw;exact ih _ _ a b
def lsFin (t:List ByteArray×WS):Option StepR:=if t.2.wrong then some ⟨wrongC formB true,t.2.pos+1,false⟩else if t.2.short then none else some (textsR t.1 t.2.pos)
theorem lsFin_wrong (h:s.wrong=true):∃u,lsFin (textsW bs k s acc)=some ⟨wrongC formB true,u,false⟩:=by
 unfold lsFin;rw[if_pos (textsW_stays k s acc h)];exact⟨_,rfl⟩
theorem lsFin_short (h:s.short=true)(hw:s.wrong=false):lsFin (textsW bs k s acc)=none:=by
 obtain⟨a,b⟩:=textsW_short (bs:=bs) k s acc h hw;unfold lsFin;rw[if_neg (by rw[b];simp),if_pos a]
theorem countW_F {hi:Nat}(h:p≤bs.length):countW bs lo hi ⟨p,false,false⟩=countF bs lo hi (bs.length-p) p 0 true:=by
 unfold countW;by_cases hp:p=bs.length
 ·subst hp;rw[Nat.sub_self];simp[WS.look,countF]
 ·rw[if_neg];simp[WS.look,hp]
theorem countF_most {hi:Nat}:∀(f p n:Nat) (first:Bool),n≤hi→(countF bs lo hi f p n first).1≤hi:=by
 intro f;induction f with
 |zero=>intro p n first _;exact Nat.zero_le _
 |succ f ih=>
  intro p n first h;unfold countF;split
  ·exact h
  ·split
   ·exact Nat.zero_le _
   ·rename_i hd;exact ih _ _ _ (by omega)
theorem countF_least {hi:Nat}:∀(f p n:Nat) (first:Bool),(first=false→lo≤n)→(countF bs lo hi f p n first).2.wrong=false→(countF bs lo hi f p n first).2.short=false→lo≤(countF bs lo hi f p n first).1:=by
 intro f;induction f with
 |zero=>intro p n first _ _ hs;cases hs
 |succ f ih=>
  intro p n first h hw hs;unfold countF at hw hs⊢;split at hw
  ·rename_i hc;rw[if_pos hc];exact h hc.1
  ·rename_i hc;rw[if_neg hc]at hs⊢;split at hw
   ·cases hw
   ·rename_i hd;rw[if_neg hd]at hs⊢;refine ih _ _ _ (fun _=>?_) hw hs;cases first with
    |true=>
     have:¬byAt bs p-48<lo:=fun h'=>hd (.inr (.inr (.inl ⟨rfl,h'⟩)))
     omega
    |false=>have:=h rfl;omega
theorem one_at {s:ByteArray}(hp:p<s.size)(hd:s[p]=36):(∀(hw:(countF s.data.toList 0 40 (s.size-(p+1)) (p+1) 0 true).2.wrong=true),∃u,lsFin (textsW s.data.toList (k+1) ⟨p,false,false⟩ acc)=some ⟨wrongC formB true,u,false⟩)∧(∀(hw:(countF s.data.toList 0 40 (s.size-(p+1)) (p+1) 0 true).2.wrong=false) (hs:(countF s.data.toList 0 40 (s.size-(p+1)) (p+1) 0 true).2.short=true),lsFin (textsW s.data.toList (k+1) ⟨p,false,false⟩ acc)=none)∧(∀(n q:Nat),countF s.data.toList 0 40 (s.size-(p+1)) (p+1) 0 true=(n,⟨q,false,false⟩)→(s.size≤q+n→lsFin (textsW s.data.toList (k+1) ⟨p,false,false⟩ acc)=none)∧(∀(h:q+n<s.size),¬s[q+n]=10→∃u,lsFin (textsW s.data.toList (k+1) ⟨p,false,false⟩ acc)=some ⟨wrongC formB true,u,false⟩)∧(∀(h:q+n<s.size),s[q+n]=10→textsW s.data.toList (k+1) ⟨p,false,false⟩ acc=textsW s.data.toList k ⟨q+n+1,false,false⟩ (acc++[s.extract q (q+n)]))):=by
 have hl:s.data.toList.length=s.size:=len_size' s;have e1:expectW s.data.toList 36 ⟨p,false,false⟩=⟨p+1,false,false⟩:=by
  unfold expectW;rw[if_neg (by simp[WS.look,hl];omega),if_pos (by show s.data.toList.getD p 0=36;rw[getD_str hp];exact hd)]
 have e2:countW s.data.toList 0 40 ⟨p+1,false,false⟩=countF s.data.toList 0 40 (s.size-(p+1)) (p+1) 0 true:=by rw[countW_F (by omega),hl]
 have e0:textsW s.data.toList (k+1) ⟨p,false,false⟩ acc=textsW s.data.toList k (oneW s.data.toList ⟨p,false,false⟩).2 (acc++[(oneW s.data.toList ⟨p,false,false⟩).1]):=rfl;have eo:oneW s.data.toList ⟨p,false,false⟩=((textW s.data.toList (countF s.data.toList 0 40 (s.size-(p+1)) (p+1) 0 true).1 (countF s.data.toList 0 40 (s.size-(p+1)) (p+1) 0 true).2).1,expectW s.data.toList 10 (textW s.data.toList (countF s.data.toList 0 40 (s.size-(p+1)) (p+1) 0 true).1 (countF s.data.toList 0 40 (s.size-(p+1)) (p+1) 0 true).2).2):=by
  unfold oneW;simp only
  rw[e1,e2]
 generalize countF s.data.toList 0 40 (s.size-(p+1)) (p+1) 0 true=C at*;refine⟨fun hw=>?_,fun hw hs=>?_,fun n q hC=>?_⟩
 ·rw[e0];exact lsFin_wrong (by rw[eo];exact wrong_stays (textW_stays hw))
 ·rw[e0];obtain⟨a,b⟩:=textW_short (bs:=s.data.toList) (n:=C.1) hs hw;obtain⟨c,d⟩:=expectW_short (bs:=s.data.toList) (c:=10) a b;exact lsFin_short (by rw[eo];exact c) (by rw[eo];exact d)
 ·subst hC;simp only at eo;refine⟨fun h=>?_,fun h h10=>?_,fun h h10=>?_⟩
  ·rw[e0];by_cases hq:s.data.toList.length<q+n
   ·have et:textW s.data.toList n ⟨q,false,false⟩=(noB,⟨q,false,true⟩):=by unfold textW;rw[if_neg (by simp),if_pos hq]
    rw[et]at eo;obtain⟨c,d⟩:=expectW_short (bs:=s.data.toList) (c:=10) (s:=⟨q,false,true⟩) rfl rfl;exact lsFin_short (by rw[eo];exact c) (by rw[eo];exact d)
   ·have et:textW s.data.toList n ⟨q,false,false⟩=(bytesOf s.data.toList q n,⟨q+n,false,false⟩):=by unfold textW;rw[if_neg (by simp),if_neg hq]
    rw[et]at eo;have ex:expectW s.data.toList 10 ⟨q+n,false,false⟩=⟨q+n,false,true⟩:=by
     unfold expectW;rw[if_pos (by simp[WS.look];omega)];simp[WS.look];omega
    simp only at eo;rw[ex]at eo;exact lsFin_short (by rw[eo]) (by rw[eo])
  ·have et:textW s.data.toList n ⟨q,false,false⟩=(bytesOf s.data.toList q n,⟨q+n,false,false⟩):=by unfold textW;rw[if_neg (by simp),if_neg (by show¬s.data.toList.length<q+n;omega)]
   rw[et]at eo;have ex:expectW s.data.toList 10 ⟨q+n,false,false⟩=⟨q+n,true,false⟩:=by
    unfold expectW;rw[if_neg (by simp[WS.look];omega),if_neg (by show¬s.data.toList.getD (q+n) 0=10;rw[getD_str h];exact h10)]
   simp only at eo;rw[ex]at eo;rw[e0];exact lsFin_wrong (by rw[eo])
  ·have et:textW s.data.toList n ⟨q,false,false⟩=(bytesOf s.data.toList q n,⟨q+n,false,false⟩):=by unfold textW;rw[if_neg (by simp),if_neg (by show¬s.data.toList.length<q+n;omega)]
   rw[et]at eo;have ex:expectW s.data.toList 10 ⟨q+n,false,false⟩=⟨q+n+1,false,false⟩:=by
    unfold expectW;rw[if_neg (by simp[WS.look];omega),if_pos (by show s.data.toList.getD (q+n) 0=10;rw[getD_str h];exact h10)]
   simp only at eo;rw[ex]at eo;rw[e0,eo];have:bytesOf s.data.toList q n=s.extract q (q+n):=by rw[extract_mkB,Nat.add_sub_cancel_left];rfl
   simp only[this]
def refC (ts:List ByteArray):Cmd:=if ts.getD 0 noB=⟨#[115,101,116]⟩∧ts.length=3 then⟨2,[ts.getD 1 noB],ts.getD 2 noB,noB,false,0⟩else⟨kindRf (ts.getD 0 noB),ts.drop 1,noB,noB,false,0⟩
theorem textsR_refC (ts:List ByteArray)(u:Nat):textsR ts u=if cmdB (refC ts).kind (refC ts).keys (refC ts).val then⟨refC ts,u,false⟩else⟨wrongC dataB false,u,false⟩:=by
 by_cases h1:ts.getD 0 noB=⟨#[115,101,116]⟩
 ·have hk:kindB (ts.getD 0 noB)=2:=(kindB_set _).2 h1;by_cases h3:ts.length=3
  ·obtain⟨a,b,c,rfl⟩:∃a b c,ts=[a,b,c]:=by
    match ts,h3 with
    | [a,b,c],_=>exact⟨a,b,c,rfl⟩
   have hrc:refC [a,b,c]=⟨2,[b],c,noB,false,0⟩:=by unfold refC;rw[if_pos ⟨h1,rfl⟩];rfl
   have ht:textsR [a,b,c] u=if cmdB 2 [b] c then⟨⟨2,[b],c,noB,false,0⟩,u,false⟩else⟨wrongC dataB false,u,false⟩:=by unfold textsR;simp only;rw[hk];rfl
   rw[hrc,ht]
  ·have hd:¬(ts.drop 1).length=2:=by
    rw[List.length_drop];intro h;omega
   have hrc:refC ts=⟨0,ts.drop 1,noB,noB,false,0⟩:=by
    have e1:kindRf (ts.getD 0 noB)=0:=by rw[h1];decide
    unfold refC;rw[if_neg (fun h=>h3 h.2),e1]
   have ht:textsR ts u=⟨wrongC dataB false,u,false⟩:=by
    unfold textsR;simp only
    rw[hk,if_pos rfl,if_neg hd];have e2:∀v,cmdB 2 [] v=false:=fun v=>by simp[cmdB,keysB,withinB]
    rw[if_neg (by rw[e2];simp)]
   rw[hrc,ht];simp only
   have e3:cmdB 0 (ts.drop 1) noB=false:=by simp[cmdB]
   rw[if_neg (by rw[e3];simp)]
 ·have hk:¬kindB (ts.getD 0 noB)=2:=fun h=>h1 ((kindB_set _).1 h)
  have e:kindB (ts.getD 0 noB)=kindRf (ts.getD 0 noB):=by
   unfold kindB kindRf;simp only[h1,if_false]
  have hrc:refC ts=⟨kindRf (ts.getD 0 noB),ts.drop 1,noB,noB,false,0⟩:=by unfold refC;rw[if_neg (fun h=>h1 h.1)]
  rw[hrc];have hv:(if kindB (ts.getD 0 noB)=2∧(ts.drop 1).length=2 then(ts.drop 1).getD 1 noB else noB)=noB:=if_neg (fun h=>hk h.1);unfold textsR;simp only
  rw[if_neg hk,hv,e]
end Go.Proofs.YtlonjggfnleolaaGreatDoor
