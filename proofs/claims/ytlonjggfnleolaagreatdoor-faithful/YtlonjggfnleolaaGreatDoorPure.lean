import Derived.Test.YtlonjggfnleolaaGreatDoorSpec
namespace Go.Proofs.YtlonjggfnleolaaGreatDoor
set_option linter.unusedVariables false
variable {bs x:List UInt8}{i n least most:Nat}{s:WS}{c:UInt8}
theorem byAt_app (h:i<bs.length):byAt (bs++x) i=byAt bs i:=by
 simp[byAt,List.getD,List.getElem?_append_left h]
theorem getD_app (h:i<bs.length):(bs++x).getD i 0=bs.getD i 0:=by
 simp[List.getD,List.getElem?_append_left h]
theorem numAt_app (h:i+1<bs.length):numAt (bs++x) i=numAt bs i:=by
 rw[numAt,numAt,byAt_app (by omega),byAt_app h]
theorem bytesOf_app {k:Nat}(h:i+k≤bs.length):bytesOf (bs++x) i k=bytesOf bs i k:=by
 unfold bytesOf;congr 2;rw[List.drop_append_of_le_length (by omega),List.take_append_of_le_length (by simp;omega)]
theorem frHead_app (h:7≤bs.length):frHead (bs++x)=frHead bs:=by
 unfold frHead;rw[byAt_app (by omega),byAt_app (by omega),byAt_app (by omega),numAt_app (by omega)]
theorem frR_mono {s:StepR}(x:List UInt8)(h:frR bs=some s):frR (bs++x)=some s∧1≤s.used∧s.used≤bs.length:=by
 unfold frR at h;split at h
 ·cases h
 rename_i h7;unfold frR;rw[if_neg (by simp;omega),frHead_app (by omega)];split at h
 ·rename_i hh;rw[if_pos hh];cases h;exact⟨rfl,by show 1≤7;omega,by show 7≤_;omega⟩
 rename_i hh;rw[if_neg hh,byAt_app (by omega),byAt_app (by omega),numAt_app (by omega),numAt_app (by omega)];split at h
 ·cases h
 rename_i hl;rw[if_neg (by simp;omega),bytesOf_app (by omega),bytesOf_app (by omega)];split at h
 ·rename_i hk;rw[if_pos hk];cases h;exact⟨rfl,by show 1≤7+_+_;omega,by show 7+_+_≤_;omega⟩
 ·rename_i hk;rw[if_neg hk];cases h;exact⟨rfl,by show 1≤7+_+_;omega,by show 7+_+_≤_;omega⟩
theorem ib_nonneg_app:∀(l m:List UInt8) (c:UInt8),0≤Go.Lib.indexByte l c→Go.Lib.indexByte (l++m) c=Go.Lib.indexByte l c∧(Go.Lib.indexByte l c).toNat<l.length∧l.getD (Go.Lib.indexByte l c).toNat 0=c:=by
 intro l;induction l with
 |nil=>intro m c h;simp[Go.Lib.indexByte]at h
 |cons b l ih=>
  intro m c h;simp only[List.cons_append]
  by_cases hb:(b==c)=true
  ·have hb':b=c:=by simpa using hb
   simp[Go.Lib.indexByte,hb']
  ·have hb':(b==c)=false:=by simpa using hb
   unfold Go.Lib.indexByte at h⊢;simp only[hb',Bool.false_eq_true,if_false]at h⊢;by_cases hl:Go.Lib.indexByte l c= -1
   ·simp[hl]at h
   ·have hge:=Go.Lib.indexByte_ge l c;obtain⟨h1,h2,h3⟩:=ih m c (by omega);have hl':(Go.Lib.indexByte l c== -1)=false:=by simpa using hl
    rw[h1];simp only[hl',Bool.false_eq_true,if_false]at h⊢;have t2:(Go.Lib.indexByte l c+1).toNat=(Go.Lib.indexByte l c).toNat+1:=by omega
    refine⟨trivial,?_,?_⟩
    ·simp;omega
    ·rw[t2,List.getD_cons_succ];exact h3
theorem setR_mono {frm size:Nat}{key:ByteArray}{s:StepR}(x:List UInt8)(h:setR bs frm key size=some s)(h1:1≤frm)(hf:frm≤bs.length):setR (bs++x) frm key size=some s∧1≤s.used∧s.used≤bs.length:=by
 unfold setR at h⊢;split at h
 ·rename_i h40;rw[if_pos h40];cases h;exact⟨rfl,h1,hf⟩
 rename_i h40;rw[if_neg h40];split at h
 ·cases h
 rename_i hl;rw[if_neg (by simp;omega),getD_app (by omega),bytesOf_app (by omega)];split at h
 ·rename_i hb;rw[if_pos hb];cases h;exact⟨rfl,by show 1≤frm+size;omega,by show frm+size≤_;omega⟩
 ·rename_i hb;rw[if_neg hb];cases h;exact⟨rfl,by show 1≤frm+size+1;omega,by show frm+size+1≤_;omega⟩
theorem lineR_mono {e:Nat}{s:StepR}(x:List UInt8)(h:lineR bs e=some s)(he:e<bs.length):lineR (bs++x) e=some s∧1≤s.used∧s.used≤bs.length:=by
 unfold lineR at h⊢;rw[List.take_append_of_le_length (by omega)];split at h
 ·exact setR_mono x h (by omega) (by omega)
 ·split at h
  ·cases h;rename_i hc;rw[if_pos hc];exact⟨rfl,by show 1≤e+1;omega,by show e+1≤_;omega⟩
  ·cases h;rename_i hc;rw[if_neg hc];exact⟨rfl,by show 1≤e+1;omega,by show e+1≤_;omega⟩
theorem lnR_mono {s:StepR}(x:List UInt8)(h:lnR bs=some s):lnR (bs++x)=some s∧1≤s.used∧s.used≤bs.length:=by
 unfold lnR at h⊢;have ht:(bs++x).take 61=bs.take 61++x.take (61-bs.length):=List.take_append;split at h
 ·rename_i hi;obtain⟨h1,h2,_⟩:=ib_nonneg_app (bs.take 61) (x.take (61-bs.length)) 10 hi;rw[ht,h1,if_pos hi];exact lineR_mono x h (by simp at h2;omega)
 ·rename_i hi;split at h
  ·rename_i hl;have e0:61-bs.length=0:=by omega
   rw[ht,e0,List.take_zero,List.append_nil,if_neg hi,if_pos (by simp;omega)];cases h;exact⟨rfl,by show 1≤61;omega,by show 61≤_;omega⟩
  ·cases h
structure WS.ok (n:Nat)(s:WS):Prop where
 pos:s.pos≤n
 bad:s.wrong=true→s.pos<n∧s.short=false
theorem look_same (h:(s.look n).short=false):s.short=false∧s.pos≠n∧s.look n=s:=by
 obtain⟨p,wr,sh⟩:=s;simp only[WS.look,Bool.or_eq_false_iff,decide_eq_false_iff_not]at h⊢;obtain⟨rfl,h2⟩:=h;simp[h2]
theorem look_ok (h:s.ok n):(s.look n).ok n:=by
 obtain⟨p,wr,sh⟩:=s;refine⟨h.pos,fun hw=>?_⟩;obtain⟨h1,h2⟩:=h.bad hw;refine⟨h1,?_⟩;simp only[WS.look,Bool.or_eq_false_iff,decide_eq_false_iff_not]at h2⊢;exact⟨h2,by simp at h1;omega⟩
theorem look_more {m:Nat}(h:s.ok n)(hs:(s.look n).short=false):s.look (n+m)=s.look n:=by
 obtain⟨h1,h2,h3⟩:=look_same hs;have:=h.pos;rw[h3];obtain⟨p,wr,sh⟩:=s;simp only[WS.look]at*;subst h1;simp;omega
theorem expectW_ok (h:s.ok bs.length):(expectW bs c s).ok bs.length:=by
 unfold expectW;split
 ·exact look_ok h
 ·rename_i hs;simp only[Bool.or_eq_true,not_or,Bool.not_eq_true]at hs;obtain⟨h1,h2,h3⟩:=look_same hs.1;have:=h.pos;split
  ·exact⟨by show s.pos+1≤_;omega,fun hw=>by cases hw⟩
  ·exact⟨this,fun _=>⟨by show s.pos<_;omega,rfl⟩⟩
theorem expectW_mono (x:List UInt8)(h:s.ok bs.length)(hs:(expectW bs c s).short=false):expectW (bs++x) c s=expectW bs c s∧s.short=false:=by
 have hl:(s.look bs.length).short=false:=by
  cases hb:(s.look bs.length).short with
  |false=>rfl
  |true=>unfold expectW at hs;rw[if_pos (by rw[hb];rfl),hb]at hs;cases hs
 obtain⟨h1,h2,h3⟩:=look_same hl;have:=h.pos;unfold expectW;rw[List.length_append,look_more h hl,getD_app (by omega)];exact⟨rfl,h1⟩
theorem countF_ok:∀(f p n:Nat) (first:Bool),p+f=bs.length→(countF bs least most f p n first).2.ok bs.length:=by
 intro f;induction f with
 |zero=>intro p n first h;exact⟨by show p≤_;omega,fun hw=>by cases hw⟩
 |succ f ih=>
  intro p n first h;unfold countF;split
  ·exact⟨by show p+1≤_;omega,fun hw=>by cases hw⟩
  ·split
   ·exact⟨by show p≤_;omega,fun _=>⟨by show p<_;omega,rfl⟩⟩
   ·exact ih _ _ _ (by omega)
theorem countF_mono (x:List UInt8):∀(f p n:Nat) (first:Bool),p+f=bs.length→(countF bs least most f p n first).2.short=false→countF (bs++x) least most (f+x.length) p n first=countF bs least most f p n first:=by
 intro f;induction f with
 |zero=>intro p n first h hs;cases hs
 |succ f ih=>
  intro p n first h hs;have e:f+1+x.length=(f+x.length)+1:=by omega
  rw[e];unfold countF at hs⊢;rw[getD_app (by omega),byAt_app (by omega)];split at hs
  ·rename_i hc;rw[if_pos hc,if_pos hc]
  ·rename_i hc;rw[if_neg hc,if_neg hc];split at hs
   ·rename_i hd;rw[if_pos hd,if_pos hd]
   ·rename_i hd;rw[if_neg hd,if_neg hd];exact ih _ _ _ (by omega) hs
theorem countW_ok (h:s.ok bs.length):(countW bs least most s).2.ok bs.length:=by
 have:=h.pos;unfold countW;split
 ·exact look_ok h
 ·exact countF_ok _ _ _ _ (by omega)
theorem countW_mono (x:List UInt8)(h:s.ok bs.length)(hs:(countW bs least most s).2.short=false):countW (bs++x) least most s=countW bs least most s∧s.short=false:=by
 have hl:(s.look bs.length).short=false:=by
  cases hb:(s.look bs.length).short with
  |false=>rfl
  |true=>unfold countW at hs;rw[if_pos (by rw[hb];rfl)]at hs;simp only[hb]at hs;cases hs
 obtain⟨h1,h2,h3⟩:=look_same hl;have:=h.pos;unfold countW at hs⊢;rw[List.length_append,look_more h hl];refine⟨?_,h1⟩;split
 ·rfl
 ·rename_i hc;rw[if_neg hc]at hs;have e:bs.length+x.length-s.pos=(bs.length-s.pos)+x.length:=by omega
  rw[e];exact countF_mono x _ _ _ _ (by omega) hs
theorem textW_ok (h:s.ok bs.length):(textW bs n s).2.ok bs.length:=by
 have:=h.pos;unfold textW;split
 ·exact h
 ·rename_i hc;simp only[Bool.or_eq_true,not_or,Bool.not_eq_true]at hc;split
  ·exact⟨this,fun hw=>by simp only[hc.1]at hw;cases hw⟩
  ·exact⟨by show s.pos+n≤_;omega,fun hw=>by simp only[hc.1]at hw;cases hw⟩
theorem textW_mono (x:List UInt8)(h:s.ok bs.length)(hs:(textW bs n s).2.short=false):textW (bs++x) n s=textW bs n s∧s.short=false:=by
 unfold textW at hs⊢;split at hs
 ·rename_i hc;rw[if_pos hc,if_pos hc];exact⟨rfl,hs⟩
 ·rename_i hc;split at hs
  ·cases hs
  ·rename_i hl;rw[if_neg hc,if_neg hc,if_neg hl,if_neg (by simp;omega),bytesOf_app (by omega)];exact⟨rfl,hs⟩
theorem oneW_ok (h:s.ok bs.length):(oneW bs s).2.ok bs.length:=expectW_ok (textW_ok (countW_ok (expectW_ok h)))
theorem oneW_mono (x:List UInt8)(h:s.ok bs.length)(hs:(oneW bs s).2.short=false):oneW (bs++x) s=oneW bs s∧s.short=false:=by
 unfold oneW at hs⊢;simp only at hs⊢;have k1:=expectW_ok (c:=36) h;have k2:=countW_ok (least:=0) (most:=40) k1;have k3:=textW_ok (n:=(countW bs 0 40 (expectW bs 36 s)).1) k2;obtain⟨e4,s3⟩:=expectW_mono x k3 hs;obtain⟨e3,s2⟩:=textW_mono x k2 s3;obtain⟨e2,s1⟩:=countW_mono x k1 s2;obtain⟨e1,s0⟩:=expectW_mono x h s1;rw[e1,e2,e3,e4];exact⟨rfl,s0⟩
theorem textsW_ok:∀(k:Nat) (s:WS) (acc:List ByteArray),s.ok bs.length→(textsW bs k s acc).2.ok bs.length:=by
 intro k;induction k with
 |zero=>intro s acc h;exact h
 |succ k ih=>intro s acc h;exact ih _ _ (oneW_ok h)
theorem textsW_mono (x:List UInt8):∀(k:Nat) (s:WS) (acc:List ByteArray),s.ok bs.length→(textsW bs k s acc).2.short=false→textsW (bs++x) k s acc=textsW bs k s acc∧s.short=false:=by
 intro k;induction k with
 |zero=>intro s acc h hs;exact⟨rfl,hs⟩
 |succ k ih=>
  intro s acc h hs;unfold textsW at hs⊢;obtain⟨e,s1⟩:=ih _ _ (oneW_ok h) hs;obtain⟨e1,s0⟩:=oneW_mono x h s1;rw[e1,e];exact⟨rfl,s0⟩
theorem textsR_used (ts:List ByteArray)(u:Nat):(textsR ts u).used=u:=by
 unfold textsR;simp only
 (repeat' split)<;>rfl
theorem expect0_pos (c:UInt8)(h:(expectW bs c ⟨0,false,false⟩).wrong=false)(hs:(expectW bs c ⟨0,false,false⟩).short=false):1≤(expectW bs c ⟨0,false,false⟩).pos:=by
 unfold expectW at h hs⊢;split at hs
 ·rename_i hc;simp only[Bool.or_eq_true,hs]at hc;rcases hc with hc|hc<;>cases hc
 ·rename_i hc;rw[if_neg hc]at h⊢;split at h
  ·rename_i hd;rw[if_pos hd];show 1≤0+1;omega
  ·cases h
theorem expectW_pos:s.pos≤(expectW bs c s).pos:=by
 unfold expectW;split
 ·exact Nat.le_refl _
 ·split
  ·show s.pos≤s.pos+1;omega
  ·exact Nat.le_refl _
theorem countF_pos:∀(f p n:Nat) (first:Bool),p≤(countF bs least most f p n first).2.pos:=by
 intro f;induction f with
 |zero=>intro p n first;exact Nat.le_refl _
 |succ f ih=>
  intro p n first;unfold countF;split
  ·show p≤p+1;omega
  ·split
   ·exact Nat.le_refl _
   ·exact Nat.le_trans (by omega) (ih (p+1) _ _)
theorem countW_pos:s.pos≤(countW bs least most s).2.pos:=by
 unfold countW;split
 ·exact Nat.le_refl _
 ·exact countF_pos _ _ _ _
theorem textW_pos:s.pos≤(textW bs n s).2.pos:=by
 unfold textW;split
 ·exact Nat.le_refl _
 ·split
  ·exact Nat.le_refl _
  ·show s.pos≤s.pos+n;omega
theorem oneW_pos:s.pos≤(oneW bs s).2.pos:=
 Nat.le_trans (Nat.le_trans expectW_pos countW_pos) (Nat.le_trans textW_pos expectW_pos)
theorem textsW_pos:∀(k:Nat) (s:WS) (acc:List ByteArray),s.pos≤(textsW bs k s acc).2.pos:=by
 intro k;induction k with
 |zero=>intro s acc;exact Nat.le_refl _
 |succ k ih=>intro s acc;exact Nat.le_trans oneW_pos (ih _ _)
theorem wrong_stays (h:s.wrong=true):(expectW bs c s).wrong=true:=by
 unfold expectW;rw[if_pos (by simp[h])];exact h
theorem countW_stays (h:s.wrong=true):(countW bs least most s).2.wrong=true:=by
 unfold countW;rw[if_pos (by simp[h])];exact h
theorem textW_stays (h:s.wrong=true):(textW bs n s).2.wrong=true:=by
 unfold textW;rw[if_pos (by simp[h])];exact h
theorem textsW_stays:∀(k:Nat) (s:WS) (acc:List ByteArray),s.wrong=true→(textsW bs k s acc).2.wrong=true:=by
 intro k;induction k with
 |zero=>intro s acc h;exact h
 |succ k ih=>intro s acc h;exact ih _ _ (wrong_stays (textW_stays (countW_stays (wrong_stays h))))
theorem lsR_mono {s:StepR}(x:List UInt8)(h:lsR bs=some s):lsR (bs++x)=some s∧1≤s.used∧s.used≤bs.length:=by
 unfold lsR at h⊢;simp only at h⊢;have k0:(⟨0,false,false⟩:WS).ok bs.length:=⟨Nat.zero_le _,fun hw=>by cases hw⟩
 have k1:=expectW_ok (c:=42) k0;have k2:=countW_ok (least:=1) (most:=5) k1;have k3:=textsW_ok (countW bs 1 5 (expectW bs 42 ⟨0,false,false⟩)).1 _ [] k2;have hsh:(textsW bs (countW bs 1 5 (expectW bs 42 ⟨0,false,false⟩)).1 (countW bs 1 5 (expectW bs 42 ⟨0,false,false⟩)).2 []).2.short=false:=by
  split at h
  ·rename_i hw;exact(k3.bad hw).2
  ·split at h
   ·cases h
   ·rename_i hs;simpa using hs
 obtain⟨e3,s2⟩:=textsW_mono x _ _ [] k2 hsh;obtain⟨e2,s1⟩:=countW_mono x k1 s2;obtain⟨e1,s0⟩:=expectW_mono x k0 s1;rw[e1,e2,e3];refine⟨h,?_⟩;split at h
 ·rename_i hw;cases h;exact⟨by show 1≤_+1;omega,by show _+1≤_;have:=(k3.bad hw).1;omega⟩
 ·rename_i hw;split at h
  ·cases h
  ·cases h;rw[textsR_used];refine⟨?_,k3.pos⟩;have w1:(expectW bs 42 ⟨0,false,false⟩).wrong=false:=by
    cases hb:(expectW bs 42 ⟨0,false,false⟩).wrong with
    |false=>rfl
    |true=>exact absurd (textsW_stays _ _ _ (countW_stays hb)) hw
   exact Nat.le_trans (expect0_pos 42 w1 s1) (Nat.le_trans countW_pos (textsW_pos _ _ _))
theorem readR_mono {d:Int}{s:StepR}(x:List UInt8)(h:readR d bs=some s):readR d (bs++x)=some s∧1≤s.used∧s.used≤bs.length:=by
 unfold readR at h⊢;split at h
 ·rename_i h1;rw[if_pos h1];exact lnR_mono x h
 ·rename_i h1;rw[if_neg h1];split at h
  ·rename_i h2;rw[if_pos h2];exact frR_mono x h
  ·rename_i h2;rw[if_neg h2];exact lsR_mono x h
end Go.Proofs.YtlonjggfnleolaaGreatDoor
namespace Go.Proofs.YtlonjggfnleolaaGreatDoor
set_option linter.unusedVariables false
structure St where
 held:List UInt8
 pass:Bool
 closed:Bool
def passL (l:List UInt8):List UInt8×Bool:=if 0≤Go.Lib.indexByte l 10 then(l.drop ((Go.Lib.indexByte l 10).toNat+1),false)else([],true)
def takeS (s:St)(p:List UInt8):St:=
 if s.closed then s else if s.pass then⟨(passL (s.held++p)).1,(passL (s.held++p)).2,false⟩else⟨s.held++p,false,false⟩
def afterS (s:St)(t:StepR):St:=
 if t.c.fatal then⟨[],false,true⟩else if t.skip then⟨(passL (s.held.drop t.used)).1,(passL (s.held.drop t.used)).2,s.closed⟩else⟨s.held.drop t.used,s.pass,s.closed⟩
theorem readR_nil (d:Int):readR d []=none:=by
 cases h:readR d []with
 |none=>rfl
 |some s=>have:=(readR_mono [] h).2;simp at this;omega
theorem passL_len (l:List UInt8):(passL l).1.length≤l.length:=by
 unfold passL;split<;>simp
theorem afterS_len {d:Int}{s:St}{t:StepR}(h:readR d s.held=some t):(afterS s t).held.length<s.held.length:=by
 obtain⟨_,h1,h2⟩:=readR_mono [] h;unfold afterS;split
 ·show 0<_;omega
 ·split
  ·have:=passL_len (s.held.drop t.used);show(passL (s.held.drop t.used)).1.length<_;simp at this;omega
  ·show(s.held.drop t.used).length<_;simp;omega
theorem ib_cons (b:UInt8)(l:List UInt8)(c:UInt8):Go.Lib.indexByte (b::l) c=if b==c then 0 else if Go.Lib.indexByte l c== -1 then-1 else Go.Lib.indexByte l c+1:=rfl
def st0:St:=⟨[],false,false⟩
end Go.Proofs.YtlonjggfnleolaaGreatDoor
