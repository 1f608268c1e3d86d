import Derived.Test.YtlonjggfnleolaaGreatDoorKpP
import Derived.Test.YtlonjggfnleolaaGreatDoorKpN
import Derived.Deep.DrawnRows
namespace Go.Proofs.YtlonjggfnleolaaGreatDoor
open Go.RowKit
set_option linter.unusedVariables false
set_option maxHeartbeats 2000000
set_option maxRecDepth 20000
variable {L t:List UInt8}
theorem sz_val1 {v:List UInt8}(hL:∀x∈L,x≠10)(h17:L.length≤17)(hm:∀r,begB (mkB (L++10::r)) ⟨#[118,97,108,117,101,32]⟩=true)(hv:lastL (L++[10])=v.length)(ht:SzOk 1 t)(hf:∀r,begB (mkB (t++r)) ⟨#[102,97,105,108,32]⟩=false):SzOk 1 (L++10::(v++10::t)):=by
 refine⟨by simp;omega,fun r w hl=>?_⟩;have hE:=kend_any (mkB (L++10::(v++10::t)++r)) w (by rw[mk_size];omega);have e1:L++10::(v++10::t)++r=L++10::(v++10::(t++r)):=by simp
 have e1':(mkB (L++10::(v++10::t)++r)).data.toList=L++10::(v++10::(t++r)):=by simp[mkB]
 rw[e1',endI_at hL]at hE;have hB:=kbegins_any (mkB (L++10::(v++10::t)++r)) ⟨#[118,97,108,117,101,32]⟩ w (by rw[mk_size];omega);have e2:begB (mkB (L++10::(v++10::t)++r)) ⟨#[118,97,108,117,101,32]⟩=true:=by rw[e1];exact hm _
 rw[e2]at hB;have e3:(mkB (L++10::(v++10::t)++r)).extract 0 (L.length+1)=mkB (L++[10]):=by
  rw[mk_take,e1];congr 1;rw[show L++10::(v++10::(t++r))=(L++[10])++(v++10::(t++r))by simp];exact List.take_left' (by simp)
 have hLa:=klast_any (mkB (L++[10])) w (by rw[mk_size];simp;omega);have e4:lastL (mkB (L++[10])).data.toList=v.length:=by rw[←hv];simp[mkB]
 rw[e4]at hLa;rw[←e3]at hLa;have e5:(mkB (L++10::(v++10::t)++r)).extract (L.length+1+v.length+1) (mkB (L++10::(v++10::t)++r)).size=mkB (t++r):=by
  rw[mk_drop,e1];congr 1;rw[show L++10::(v++10::(t++r))=(L++10::(v++[10]))++(t++r)by simp];exact List.drop_left' (by simp;omega)
 have hT:Calls Tryz.prog 65 #[.int .i64 1,.string (mkB (t++r))] w fun e w'=>e= .returned (.int .i64 (t.length:Int))∧w'=w:=(ht.2 r w (by simp at hl⊢;omega)).mono (by rintro e w' ⟨a1,a2,_⟩;exact⟨a1,a2 (by decide)⟩)
 have hF:=kbegins_any (mkB (t++r)) ⟨#[102,97,105,108,32]⟩ w (by rw[mk_size];simp at hl⊢;omega);rw[hf r]at hF;rw[←e5]at hT hF;have hn:(L++10::(v++10::t)).length=L.length+1+v.length+1+t.length:=by simp;omega
 have hsz:(mkB (L++10::(v++10::t)++r)).size=L.length+1+v.length+1+t.length+r.length:=by rw[mk_size,List.length_append,hn]
 rw[List.length_append]at hl;rw[hn]at hl⊢;have ht1:=ht.1;generalize hnn:L.length+1=n at*;have hn1:¬(n:Int)<0:=by omega
 have HE:=hide' hE;have HB:=hide' hB;have HL:=hide' hLa;have HT:=hide' hT;have HF:=hide' hF;generalize mkB (L++10::(v++10::t)++r)=S at*;generalize v.length=m at*;generalize r.length=rl at*;generalize t.length=tl at*;have hnS:n≤S.size:=by omega
 have hmS:n+m+1≤S.size:=by omega
 have hmS':¬(S.size:Int)<(n:Int)+(m:Int)+1:=by omega
 have htl:¬(tl:Int)<0:=by omega
 have HSz:=hide' hsz;clear hE hB hLa hT hF e1 e1' e2 e3 e4 e5 hn hnn hL hm hv hsz ht hf;go_enter Tryz.func65,Tryz.ntmps65;go_wp2_with fail
 go_at_call 96;refine HE.out.mono ?_;rintro e w1 ⟨rfl,hw1⟩;subst hw1;go_wp2_with fail
 go_at_call 27;refine HB.out.mono ?_;rintro e w2 ⟨rfl,hw2⟩;subst hw2;go_wp2_with fail
 go_at_call 97;refine HL.out.mono ?_;rintro e w3 ⟨rfl,hw3⟩;subst hw3;go_wp2_with fail
 go_at_call 65;refine HT.out.mono ?_;rintro e w4 ⟨rfl,hw4⟩;subst hw4;go_wp2_with fail
 go_at_call 27;refine HF.out.mono ?_;rintro e w5 ⟨rfl,hw5⟩;subst hw5;go_wp2_with fail
 go_ret;exact⟨ret_int (by omega),fun _=>rfl,Below.refl _ _⟩
theorem sz_frame0 (S:ByteArray)(n:Nat)(w:World)(h7:7≤S.size)(k3:3<S.size)(k4:4<S.size)(hn:7+S[3].toNat+256*S[4].toNat=n)(hs:S.size≤100000000000):Calls Tryz.prog 65 #[.int .i64 2,.string S] w fun e w'=>e= .returned (.int .i64 (n:Int))∧Below w.heap.size w w':=by
 have HE:=hide' (kend_any S w (by omega));generalize endI S.data.toList=en at*;have hS3:(3:Int)<(S.size:Int):=by omega
 have hS4:(4:Int)<(S.size:Int):=by omega
 have h7':¬(S.size:Int)<7:=by omega
 have hq3:=S[3].toNat_lt;have hq4:=S[4].toNat_lt;have wr3:IntKind.i64.wrap (S[3].toNat:Int)=(S[3].toNat:Int):=wrap_small _ (by omega) (by omega);have wr4:IntKind.i64.wrap (S[4].toNat:Int)=(S[4].toNat:Int):=wrap_small _ (by omega) (by omega);have HN:=hide' hn;clear hn;go_enter Tryz.func65,Tryz.ntmps65;go_wp2_with fail
 go_at_call 96;refine HE.out.mono ?_;rintro e w1 ⟨rfl,hw1⟩;subst hw1;go_wp2_with fail
 have wr5:IntKind.i64.wrap ((7:Int)+(S[3].toNat:Int))=(7:Int)+(S[3].toNat:Int):=wrap_small _ (by omega) (by omega);have wr6:IntKind.i64.wrap ((256:Int)*(S[4].toNat:Int))=(256:Int)*(S[4].toNat:Int):=wrap_small _ (by omega) (by omega);have wr7:IntKind.i64.wrap ((7:Int)+(S[3].toNat:Int)+(256:Int)*(S[4].toNat:Int))=(7:Int)+(S[3].toNat:Int)+(256:Int)*(S[4].toNat:Int):=wrap_small _ (by omega) (by omega);go_region_law fail
 all_goals
  go_wp2
  go_ret
  exact⟨ret_int (by have:=HN.out;omega),(Below.refl _ _).drew⟩
theorem sz_frame (h7:7≤t.length)(hn:7+byAt t 3+256*byAt t 4=t.length):SzOk 2 t:=by
 refine⟨by omega,fun r w hl=>?_⟩;have hsz:(mkB (t++r)).size=t.length+r.length:=by rw[mk_size,List.length_append]
 have hby:∀i,i<7→byAt (mkB (t++r)).data.toList i=byAt t i:=fun i hi=>by
  have e:(mkB (t++r)).data.toList=t++r:=by simp[mkB]
  rw[e];show((t++r).getD i 0).toNat=(t.getD i 0).toNat;rw[List.getD,List.getD,List.getElem?_append_left (by omega)]
 have b3:=byAt_str (s:=mkB (t++r)) (k:=3) (by omega);have b4:=byAt_str (s:=mkB (t++r)) (k:=4) (by omega);rw[hby 3 (by omega)]at b3;rw[hby 4 (by omega)]at b4;rw[b3,b4]at hn;rw[List.length_append]at hl;exact(sz_frame0 (mkB (t++r)) t.length w (by omega) (by omega) (by omega) hn (by omega)).mono (by rintro e w' ⟨a1,a2⟩;exact⟨a1,fun h=>absurd rfl h,a2⟩)
theorem sz_many3 {ts:List (List UInt8)}(hL:∀x∈42::L,x≠10)(h17:L.length≤16)(hv:lastL (42::L++[10])=ts.length)(ht:∀t∈ts,SzOk 3 t):SzOk 3 (42::L++10::ts.flatten):=by
 refine⟨by simp,fun r w hl=>?_⟩;have hE:=kend_any (mkB (42::L++10::ts.flatten++r)) w (by rw[mk_size];omega);have e1:42::L++10::ts.flatten++r=42::L++10::(ts.flatten++r):=by simp
 have e1':(mkB (42::L++10::ts.flatten++r)).data.toList=(42::L)++10::(ts.flatten++r):=by simp[mkB]
 rw[e1',endI_at hL]at hE;have hB:=kbegins_any (mkB (42::L++10::ts.flatten++r)) ⟨#[36,45,49]⟩ w (by rw[mk_size];omega);have e2:begB (mkB (42::L++10::ts.flatten++r)) ⟨#[36,45,49]⟩=false:=head_no (by decide);rw[e2]at hB;have e3:(mkB (42::L++10::ts.flatten++r)).extract 0 ((42::L).length+1)=mkB (42::L++[10]):=by
  rw[mk_take,e1];congr 1;rw[show 42::L++10::(ts.flatten++r)=(42::L++[10])++(ts.flatten++r)by simp];exact List.take_left' (by simp)
 have hLa:=fun W=>klast_any (mkB (42::L++[10])) W (by rw[mk_size];simp;omega)
 have e4:lastL (mkB (42::L++[10])).data.toList=ts.length:=by rw[←hv];simp[mkB]
 rw[e4]at hLa;rw[←e3]at hLa;have hn:(42::L++10::ts.flatten).length=(42::L).length+1+ts.flatten.length:=by simp;omega
 have hsz:(mkB (42::L++10::ts.flatten++r)).size=(42::L).length+1+ts.flatten.length+r.length:=by rw[mk_size,List.length_append,hn]
 have hts:ts.length<1000000000000000000:=by
  have:=lastL_lt (42::L++[10]).length (42::L++[10]) rfl;have h2:10 ^ (42::L++[10]).length≤10 ^ 18:=Nat.pow_le_pow_right (by omega) (by simp;omega);have h3:(10:Nat) ^ 18=1000000000000000000:=by decide
  omega
 have h0:∀h:0<(mkB (42::L++10::ts.flatten++r)).size,(mkB (42::L++10::ts.flatten++r))[0]=42:=fun _=>rfl
 have HX:Hid (∀(j:Nat) (t:List UInt8) (W:World),ts[j]?=some t→(42::L).length+1+(ts.take j).flatten.length+t.length≤(mkB (42::L++10::ts.flatten++r)).size∧1≤t.length∧Calls Tryz.prog 65 #[.int .i64 3,.string ((mkB (42::L++10::ts.flatten++r)).extract ((42::L).length+1+(ts.take j).flatten.length) (mkB (42::L++10::ts.flatten++r)).size)] W fun e w'=>e= .returned (.int .i64 (t.length:Int))∧w'=W):=fun j t W hj=>by
  have hjl:=(List.getElem?_eq_some_iff.1 hj).1;have hsp:ts.flatten=(ts.take j).flatten++(t++(ts.drop (j+1)).flatten):=by
   have e:ts=ts.take j++t::ts.drop (j+1):=by
    have h1:ts.drop j=t::ts.drop (j+1):=by
     rw[List.drop_eq_getElem_cons hjl];congr 1;exact(List.getElem?_eq_some_iff.1 hj).2
    rw[←h1,List.take_append_drop]
   conv=>lhs;rw[e]
   simp
  have hlen:ts.flatten.length=(ts.take j).flatten.length+(t.length+(ts.drop (j+1)).flatten.length):=by rw[hsp];simp
  have g:=ht t (List.mem_of_getElem? hj);refine⟨by rw[hsz];omega,g.1,?_⟩;have e5:(mkB (42::L++10::ts.flatten++r)).extract ((42::L).length+1+(ts.take j).flatten.length) (mkB (42::L++10::ts.flatten++r)).size=mkB (t++((ts.drop (j+1)).flatten++r)):=by
   rw[mk_drop,e1,hsp];congr 1;rw[show 42::L++10::((ts.take j).flatten++(t++(ts.drop (j+1)).flatten)++r)=(42::L++10::(ts.take j).flatten)++(t++((ts.drop (j+1)).flatten++r))by simp];exact List.drop_left' (by simp;omega)
  rw[e5];refine(g.2 _ W ?_).mono (by rintro e w' ⟨a1,a2,_⟩;exact⟨a1,a2 (by decide)⟩);rw[List.length_append,hn]at hl;rw[List.length_append,List.length_append];omega
 have HFl:Hid (∀j t,ts[j]?=some t→(ts.take (j+1)).flatten.length=(ts.take j).flatten.length+t.length):=fun j t hj=>by rw[List.take_add_one,hj];simp
 have HTs:Hid (∀j,j<ts.length→∃t,ts[j]?=some t):=fun j hj=>⟨_,List.getElem?_eq_getElem hj⟩
 have HTk:Hid ((ts.take ts.length).flatten.length=ts.flatten.length):=(by rw[List.take_length]:(ts.take ts.length).flatten.length=ts.flatten.length)
 rw[List.length_append]at hl;rw[hn]at hl⊢;generalize hnn:(42::L).length+1=n at*;have hn1:¬(n:Int)<0:=by omega
 have HE:=hide' hE;have HB:=hide' hB;have HL:=hide' hLa;generalize mkB (42::L++10::ts.flatten++r)=S at*;generalize hm:ts.length=m at*;generalize r.length=rl at*;have hS0:0<S.size:=by omega
 have h0':=h0 hS0;have hb':(S[0].toNat:Int)=42:=by rw[h0'];rfl
 have hnS:n≤S.size:=by omega
 have hSb:S.size≤100000000000:=by omega
 have HSz:=hide' hsz;clear hE hB hLa e1 e1' e2 e3 e4 hn hnn hL h0 h0' hv hsz ht hl;go_enter Tryz.func65,Tryz.ntmps65;go_wp2_with fail
 go_at_call 96;refine HE.out.mono ?_;rintro e w1 ⟨rfl,hw1⟩;subst hw1;go_wp2_with fail
 go_at_call 27;refine HB.out.mono ?_;rintro e w2 ⟨rfl,hw2⟩;subst hw2;go_wp2_with fail
 go_loop [8,9,10] (fun a i _=>∃j q:Nat,j≤m∧i= .int .i64 (j:Int)∧a= .int .i64 (q:Int)∧q≤S.size∧Hid (q=n+(ts.take j).flatten.length)) (fun _ i _=>m-(intOf i).toNat)
 case atStart=>exact⟨0,n,Nat.zero_le _,rfl,rfl,hnS,(by show n=_;simp)⟩
 case round=>
  obtain⟨j,q,hj,rfl,rfl,hqS,hq⟩:=hrel;have HLw:=hide' (HL.out w2);by_cases hlt:j<m
  ·have hlt':(j:Int)<(m:Int):=by omega
   obtain⟨t,htj⟩:=HTs.out j hlt;obtain⟨x1,x2,x3⟩:=HX.out j t w2 htj;rw[←hq.out]at x1 x3;have hq2:¬(S.size:Int)≤(q:Int):=by omega
   have HT:=hide' x3;have HN2:Hid (q+t.length=n+(ts.take (j+1)).flatten.length):=by
    have e:q+t.length=n+(ts.take (j+1)).flatten.length:=by rw[HFl.out j t htj,hq.out];omega
    exact e
   generalize t.length=tl at*;have htl:¬(tl:Int)<0:=by omega
   clear x3;go_wp2_with fail
   go_at_call 97;refine HLw.out.mono ?_;rintro e w3 ⟨rfl,hw3⟩;subst hw3;go_wp2_with fail
   go_at_call 65;refine HT.out.mono ?_;rintro e w4 ⟨rfl,hw4⟩;subst hw4;go_wp2_with fail
   go_round
   case rel=>exact⟨j+1,q+tl,by omega,by go_num,by go_num,x1,HN2⟩
   case measure=>simp[intOf];omega
  ·have hlt':¬(j:Int)<(m:Int):=by omega
   have HR:Hid (q=n+ts.flatten.length):=by
    have e:j=m:=by omega
    have h:=hq.out;rw[e,HTk.out]at h;exact h
   go_wp2_with fail
   go_at_call 97;refine HLw.out.mono ?_;rintro e w3 ⟨rfl,hw3⟩;subst hw3;go_wp2_with fail
   go_ret;exact⟨ret_int (by have:=HR.out;omega),fun _=>rfl,Below.refl _ _⟩
def Whole (d:Int)(l:List UInt8)(n:Nat):Prop:=∃ts:List (List UInt8),l=ts.flatten∧ts.length=n∧∀t∈ts,SzOk d t
theorem Whole.snoc {d:Int}{l:List UInt8}{n:Nat}(h:Whole d l n)(ht:SzOk d t):Whole d (l++t) (n+1):=by
 obtain⟨ts,h1,h2,h3⟩:=h;refine⟨ts++[t],by rw[h1];simp,by rw[List.length_append,h2];rfl,fun x hx=>?_⟩;rcases List.mem_append.1 hx with e|e
 ·exact h3 x e
 ·simp at e;rw[e];exact ht
theorem answers_any (d:Int)(S:ByteArray)(N:Nat)(w:World)(h:Whole d S.data.toList N)(hs:S.size≤100000000000):Calls Tryz.prog 36 #[.int .i64 d,.string S] w fun e w'=>e= .returned (.tuple #[.int .i64 (N:Int),.bool true])∧Below w.heap.size w w':=by
 obtain⟨ts,h1,h2,h3⟩:=h;have hN:N≤S.size:=by
  have:∀(ts:List (List UInt8)),(∀t∈ts,SzOk d t)→ts.length≤ts.flatten.length:=by
   intro ts;induction ts with
   |nil=>intro _;exact Nat.le_refl _
   |cons t ts ih=>
    intro hh;have a1:=ih (fun x hx=>hh x (by simp[hx]));have a2:=(hh t (by simp)).1;simp only[List.flatten_cons,List.length_append,List.length_cons]
    omega
  have h4:=this ts h3;rw[←h1,len_size',h2]at h4;exact h4
 have HX:Hid (∀(j:Nat) (T:ByteArray),T.data.toList=(ts.drop j).flatten→j<N→T.size≤S.size→∃tl:Nat,1≤tl∧tl≤T.size∧(T.extract tl T.size).data.toList=(ts.drop (j+1)).flatten∧(T.extract tl T.size).size≤T.size∧∀W,Calls Tryz.prog 65 #[.int .i64 d,.string T] W fun e w'=>e= .returned (.int .i64 (tl:Int))∧Below W.heap.size W w'):=fun j T hT hj hTs=>by
  have hjl:j<ts.length:=by omega
  have e:ts.drop j=ts[j]::ts.drop (j+1):=List.drop_eq_getElem_cons hjl;have g:=h3 ts[j] (List.getElem_mem hjl);rw[e,List.flatten_cons]at hT;have eT:T=mkB (ts[j]++(ts.drop (j+1)).flatten):=by rw[←hT,mkB_toList]
  have hTz:T.size=ts[j].length+(ts.drop (j+1)).flatten.length:=by rw[eT,mk_size,List.length_append]
  refine⟨ts[j].length,g.1,by omega,?_,?_,fun W=>?_⟩
  ·rw[eT,mk_drop];simp[mkB]
  ·rw[eT,mk_drop,mk_size,mk_size];simp
  ·rw[eT];exact(g.2 _ W (by rw[List.length_append];omega)).mono (by rintro e w' ⟨a1,_,a2⟩;exact⟨a1,a2⟩)
 have HS:Hid (S.data.toList=(ts.drop 0).flatten):=(by rw[h1];rfl:S.data.toList=(ts.drop 0).flatten)
 have HTN:=hide' h2;have HFin:Hid (∀(j:Nat) (T:ByteArray),T.data.toList=(ts.drop j).flatten→j≤N→(T.size=0↔j=N)):=fun j T hT hj=>by
  constructor
  ·intro h0;by_cases hlt:j<N
   ·exfalso;have hjl:j<ts.length:=by omega
    have e:ts.drop j=ts[j]::ts.drop (j+1):=List.drop_eq_getElem_cons hjl;have g:=h3 ts[j] (List.getElem_mem hjl);have hl:=congrArg List.length hT;rw[e,List.flatten_cons,List.length_append,len_size']at hl;have:=g.1;omega
   ·omega
  ·intro e;have hl:=congrArg List.length hT;rw[e,←h2,List.drop_length,len_size']at hl;exact hl
 clear h1 h2 h3;go_enter Tryz.func36,Tryz.ntmps36;go_wp2;go_loopw [1,6,7] (fun s n _ wr=>∃(j:Nat) (T:ByteArray),j≤N∧n= .int .i64 (j:Int)∧s= .string T∧T.size≤S.size∧Hid (T.data.toList=(ts.drop j).flatten∧Below w.heap.size w wr)) (fun _ n _ _=>N-(intOf n).toNat)
 case atStart=>exact⟨0,S,Nat.zero_le _,rfl,rfl,Nat.le_refl _,HS.out,Below.refl _ _⟩
 case round=>
  obtain⟨j,T,hj,rfl,rfl,hTS,hT⟩:=hrel;by_cases hlt:j<N
  ·have hne:¬T.size=0:=fun e=>by have:=(HFin.out j T hT.out.1 hj).1 e;omega
   obtain⟨tl,t1,t2,t3,t4,t5⟩:=HX.out j T hT.out.1 hlt hTS;have HT:=hide' t5;have H3:=hide' t3;have p1:(0:Int)<(T.size:Int):=by omega
   have p2:¬(tl:Int)≤0:=by omega
   have p3:¬(T.size:Int)<(tl:Int):=by omega
   clear t3 t5;have HT':=hide' (HT.out wr);go_wp2_with fail
   go_at_call 65;refine HT'.out.mono ?_;rintro e w1 ⟨rfl,hw1⟩;have HB1:=hide' (hT.out.2.trans (hw1.mono hT.out.2.size));clear hw1;go_wp2_with fail
   go_roundw;case rel=>exact⟨j+1,T.extract tl T.size,by omega,by go_num,rfl,by omega,H3.out,HB1.out⟩
   case measure=>simp[intOf];omega
  ·have hjN:j=N:=by omega
   have h0:=(HFin.out j T hT.out.1 hj).2 hjN;have p1:¬(0:Int)<(T.size:Int):=by omega
   go_wp2_with fail
   go_ret2;exact⟨rfl,hT.out.2⟩
end Go.Proofs.YtlonjggfnleolaaGreatDoor
namespace Go.Proofs.YtlonjggfnleolaaGreatDoor
open Go.RowKit Go.Shelf
set_option linter.unusedVariables false
variable {x:StepR}{ss ss':List SrvQ}
def cmdN (d:Int)(n:Nat)(c:Cmd):Cmd:=⟨c.kind,c.keys,c.val,noB,false,if d=2 then(n:Int)else 0⟩
def CmQ (d:Int)(cs:List Cmd)(Q:Int→PS→Prop)(qs:List QS)(a:Nat):Prop:=∀(k:Nat) (x:QS),qs[k]?=some x→∃c,cs[a+k]?=some c∧x.c=cmdN d (a+k) c∧x.ps.length=c.keys.length∧∀p∈x.ps,Q c.kind p
structure CInv (d:Int)(cs:List Cmd)(rest:List UInt8)(Q:Int→PS→Prop)(P:List UInt8→Nat→Prop)(s:CliQ)(a:Nat):Prop where
 di:s.d=d
 ps0:s.st.pass=false
 cl0:s.st.closed=false
 cm:CmQ d cs Q s.qs a
 tx:s.st.held++rest=asksFrom d (a+s.qs.length) (cs.drop (a+s.qs.length))
 le:a+s.qs.length≤cs.length
 td:P s.told a
def TellP (d:Int)(cs:List Cmd)(Q:Int→PS→Prop)(P:List UInt8→Nat→Prop):Prop:=∀(told:List UInt8) (a:Nat) (c:Cmd) (ps:List PS),cs[a]?=some c→ps.length=c.keys.length→(∀p∈ps,Q c.kind p)→(⟨cmdN d a c,ps⟩:QS).n=0→P told a→P (told++(toldB d ⟨cmdN d a c,ps⟩).data.toList) (a+1)
def HeadO (qs:List QS):Prop:=∀x l,qs=x::l→x.n≠0
theorem tell_inv {d:Int}{cs:List Cmd}{Q:Int→PS→Prop}{P:List UInt8→Nat→Prop}(hP:TellP d cs Q P):∀(qs:List QS) (told:List UInt8) (a:Nat),CmQ d cs Q qs a→P told a→∃a',a'+(tellQ d qs told).1.length=a+qs.length∧CmQ d cs Q (tellQ d qs told).1 a'∧P (tellQ d qs told).2 a'∧HeadO (tellQ d qs told).1∧∀x∈(tellQ d qs told).1,x∈qs:=by
 intro qs;induction qs with
 |nil=>intro told a h1 h2;exact⟨a,rfl,h1,h2,fun x l e=>(by cases e),fun x hx=>hx⟩
 |cons x qs ih=>
  intro told a h1 h2;unfold tellQ;split
  ·rename_i hn;obtain⟨c,e1,e2,e3,e4⟩:=h1 0 x rfl;rw[Nat.add_zero]at e1 e2;have hx:x=⟨cmdN d a c,x.ps⟩:=by rw[←e2]
   have h3:=hP told a c x.ps e1 e3 e4 (by rw[←hx];exact hn) h2;rw[←hx]at h3;obtain⟨a',b1,b2,b3,b4,b5⟩:=ih (told++(toldB d x).data.toList) (a+1) (fun k y hy=>by
    obtain⟨c,f1,f2⟩:=h1 (k+1) y (by simpa using hy);rw[show a+(k+1)=a+1+k by omega]at f1 f2;exact⟨c,f1,f2⟩) h3
   exact⟨a',by rw[b1,List.length_cons];omega,b2,b3,b4,fun y hy=>List.mem_cons_of_mem _ (b5 y hy)⟩
  ·rename_i hn;refine⟨a,rfl,h1,h2,fun y l e=>?_,fun y hy=>hy⟩;cases e;exact hn
section
variable {d:Int}{cs:List Cmd}{rest:List UInt8}{Q:Int→PS→Prop}{P:List UInt8→Nat→Prop}{s:CliQ}{a:Nat}
theorem CInv.tell (h:CInv d cs rest Q P s a)(hP:TellP d cs Q P):(∃a',CInv d cs rest Q P (tellQs s) a')∧HeadO (tellQs s).qs∧∀x∈(tellQs s).qs,x∈s.qs:=by
 obtain⟨a',b1,b2,b3,b4,b5⟩:=tell_inv hP s.qs s.told a h.cm h.td;have hd:=h.di;refine⟨⟨a',hd,h.ps0,h.cl0,?_,?_,?_,?_⟩,?_,?_⟩
 ·show CmQ d cs Q (tellQ s.d s.qs s.told).1 a';rw[hd];exact b2
 ·show s.st.held++rest=asksFrom d (a'+(tellQ s.d s.qs s.told).1.length) _;rw[hd];show _=asksFrom d _ (cs.drop (a'+(tellQ s.d s.qs s.told).1.length));rw[hd,b1];exact h.tx
 ·show a'+(tellQ s.d s.qs s.told).1.length≤_;rw[hd,b1];exact h.le
 ·show P (tellQ s.d s.qs s.told).2 a';rw[hd];exact b3
 ·show HeadO (tellQ s.d s.qs s.told).1;rw[hd];exact b4
 ·show∀x∈(tellQ s.d s.qs s.told).1,x∈s.qs;rw[hd];exact b5
theorem CInv.read (h:CInv d cs rest Q P s a)(hd:d=1∨d=2∨d=3)(hg:∀x∈cs,GoodC d x)(hl:cs.length≤65535)(hr:readR s.d s.st.held=some x):∃c,cs[a+s.qs.length]?=some c∧x.c=cmdN d (a+s.qs.length) c∧afterS s.st x=⟨s.st.held.drop x.used,false,false⟩∧s.st.held.drop x.used++rest=asksFrom d (a+s.qs.length+1) (cs.drop (a+s.qs.length+1)):=by
 rw[h.di]at hr;obtain⟨m1,m2,m3⟩:=readR_mono rest hr;have hle:=h.le;have ht:=h.tx;rw[ht]at m1;generalize hn:a+s.qs.length=n at*;by_cases hlt:n<cs.length
 ·have hc:cs[n]?=some cs[n]:=List.getElem?_eq_getElem hlt;have hdr:cs.drop n=cs[n]::cs.drop (n+1):=List.drop_eq_getElem_cons hlt;have g:=hg cs[n] (List.getElem_mem hlt);rw[hdr]at m1 ht;have hk:=ask_round d cs[n].kind cs[n].keys cs[n].val (n:Int) (asksFrom d (n+1) (cs.drop (n+1))) hd (askable_of g.cmd) (fun h2=>⟨g.one h2,by omega,by omega⟩);have hx:x=⟨⟨cs[n].kind,cs[n].keys,cs[n].val,noB,false,if d=2 then(n:Int)else 0⟩,(askS d cs[n].kind cs[n].keys cs[n].val n).data.toList.length,false⟩:=by
   have e:asksFrom d n (cs[n]::cs.drop (n+1))=(askS d cs[n].kind cs[n].keys cs[n].val n).data.toList++asksFrom d (n+1) (cs.drop (n+1)):=rfl;rw[e,hk]at m1;exact(Option.some.inj m1).symm
  refine⟨cs[n],hc,by rw[hx];rfl,?_,?_⟩
  ·unfold afterS;have f1:x.c.fatal=false:=by rw[hx]
   have f2:x.skip=false:=by rw[hx]
   rw[f1,f2,h.ps0,h.cl0];rfl
  ·have e:(s.st.held++rest).drop x.used=(asksFrom d n (cs[n]::cs.drop (n+1))).drop x.used:=by rw[ht]
   rw[List.drop_append_of_le_length m3]at e;rw[e,hx];simp only[asksFrom]
   exact List.drop_left
 ·exfalso;rw[List.drop_eq_nil_of_le (by omega)]at m1;have e:asksFrom d n []=[]:=rfl;rw[e,readR_nil]at m1;cases m1
def upAt (ss:List SrvQ)(o:Nat):Prop:=∃u,ss[o]?=some u∧u.up=true
theorem upAt_same (h:SameIn ss ss'){o:Nat}:upAt ss o↔upAt ss' o:=by
 constructor
 ·rintro ⟨u,h1,h2⟩;obtain⟨u',e1,_,e3⟩:=h.at_ h1;exact⟨u',e1,e3.trans h2⟩
 ·rintro ⟨u,h1,h2⟩;obtain⟨u',e1,_,e3⟩:=h.2 o u h1;exact⟨u',e1,e3.symm.trans h2⟩
theorem sendsK_up (sv pt:Nat)(k:Int)(val:ByteArray)(ex:List (Nat×Nat))(ss:List SrvQ)(ks:List ByteArray):∀p∈(sendsK sv pt k val ex ss ks).2,p= .fl∨∃o id,p= .op o id∧upAt ss o:=by
 have h:=sendsK_ind sv pt k val ex ss (fun ks st=>SameIn ss st.1∧∀p∈st.2,p= .fl∨∃o id,p= .op o id∧upAt ss o) ⟨SameIn.refl _,fun p hp=>(by cases hp)⟩ (fun ks key st hP=>by
  refine⟨?_,fun p hp=>?_⟩
  ·have:=sendsK_in sv pt k val (ex++opPs st.2) st.1 [key];unfold sendK;split
   ·exact hP.1
   ·rename_i s hs;split
    ·refine hP.1.trans ⟨by simp,fun j s' hj=>?_⟩;rw[List.getElem?_set]at hj;split at hj
     ·rename_i e;subst e;split at hj
      ·cases hj;exact⟨s,hs,rfl,rfl⟩
      ·cases hj
     ·exact⟨s',hj,rfl,rfl⟩
    ·exact hP.1
  ·unfold sendK at hp;split at hp
   ·rcases List.mem_append.1 hp with e|e
    ·exact hP.2 p e
    ·simp at e;exact .inl e
   ·rename_i s hs;split at hp
    ·rename_i hup;rcases List.mem_append.1 hp with e|e
     ·exact hP.2 p e
     ·simp at e;exact .inr ⟨_,_,e,(upAt_same hP.1).2 ⟨s,hs,hup⟩⟩
    ·rcases List.mem_append.1 hp with e|e
     ·exact hP.2 p e
     ·simp at e;exact .inl e) ks
 exact h.2
def NPart (ss:List SrvQ)(qs:List QS):Prop:=∀x∈qs,∀p∈x.ps,p≠ .un∧∀o id,p= .op o id→upAt ss o
theorem NPart.same (h:SameIn ss ss'){qs:List QS}(hn:NPart ss qs):NPart ss' qs:=fun x hx p hp=>⟨(hn x hx p hp).1,fun o id e=>(upAt_same h).1 ((hn x hx p hp).2 o id e)⟩
theorem CInv.got (h:CInv d cs rest Q P s a)(hd:d=1∨d=2∨d=3)(hg:∀x∈cs,GoodC d x)(hl:cs.length≤65535)(hQ:∀k p,(p= .fl∨∃o id,p= .op o id)→Q k p)(hr:readR s.d s.st.held=some x)(sv pt:Nat)(ex:List (Nat×Nat))(ss:List SrvQ):CInv d cs rest Q P (gotQ sv pt ex s ss x).1 a:=by
 obtain⟨c,e1,e2,e3,e4⟩:=h.read hd hg hl hr;have hlen:(gotQ sv pt ex s ss x).1.qs.length=s.qs.length+1:=by simp[gotQ]
 have hlt:=(List.getElem?_eq_some_iff.1 e1).1;refine⟨h.di,by show(afterS s.st x).pass=false;rw[e3],by show(afterS s.st x).closed=false;rw[e3],fun k y hy=>?_,?_,by rw[hlen];omega,h.td⟩
 ·have hy':(s.qs++[⟨x.c,(sendsK sv pt x.c.kind x.c.val (ex++opQs s.qs) ss x.c.keys).2⟩])[k]?=some y:=hy;by_cases hk:k<s.qs.length
  ·rw[List.getElem?_append_left hk]at hy';exact h.cm k y hy'
  ·rw[List.getElem?_append_right (by omega)]at hy';cases hj:k-s.qs.length with
   |succ j=>rw[hj]at hy';simp at hy'
   |zero=>
    rw[hj]at hy';simp at hy';have hk2:k=s.qs.length:=by omega
    subst hk2;refine⟨c,e1,by rw[←hy'];exact e2,?_,fun p hp=>?_⟩
    ·rw[←hy'];show(sendsK _ _ _ _ _ _ _).2.length=_;rw[(sendsK_len _ _ _ _ _ _ _).2,e2];rfl
    ·rw[←hy']at hp;exact hQ _ p (sendsK_ps _ _ _ _ _ _ _ p hp)
 ·rw[hlen];show(afterS s.st x).held++rest=_;rw[e3];exact e4
theorem NPart.got (hn:NPart ss s.qs)(sv pt:Nat)(ex:List (Nat×Nat))(x:StepR):NPart (gotQ sv pt ex s ss x).2 (gotQ sv pt ex s ss x).1.qs:=by
 have hs:SameIn ss (gotQ sv pt ex s ss x).2:=sendsK_in _ _ _ _ _ _ _;intro y hy p hp;have hy':y∈s.qs++[⟨x.c,(sendsK sv pt x.c.kind x.c.val (ex++opQs s.qs) ss x.c.keys).2⟩]:=hy;rcases List.mem_append.1 hy' with e|e
 ·exact(hn.same hs) y e p hp
 ·simp at e;rw[e]at hp;rcases sendsK_up _ _ _ _ _ _ _ p hp with e2|⟨o,id,e2,e3⟩
  ·rw[e2];exact⟨fun h=>(by cases h),fun o id h=>(by cases h)⟩
  ·rw[e2];refine⟨fun h=>(by cases h),fun o' id' h=>?_⟩;cases h;exact(upAt_same hs).1 e3
def NormC (win:Nat)(s:CliQ):Prop:=HeadO s.qs∧(s.qs.length<win→readR s.d s.st.held=none)
theorem serv_inv (hd:d=1∨d=2∨d=3)(hg:∀x∈cs,GoodC d x)(hl:cs.length≤65535)(hQ:∀k p,(p= .fl∨∃o id,p= .op o id)→Q k p)(hP:TellP d cs Q P)(sv pt win:Nat)(ex:List (Nat×Nat)):∀(f:Nat) (s:CliQ) (ss:List SrvQ) (a:Nat),CInv d cs rest Q P s a→NPart ss s.qs→HeadO s.qs→s.st.held.length≤f→(∃a',CInv d cs rest Q P (servF sv pt win ex f s ss).1 a')∧NPart (servF sv pt win ex f s ss).2 (servF sv pt win ex f s ss).1.qs∧NormC win (servF sv pt win ex f s ss).1:=by
 intro f;induction f with
 |zero=>
  intro s ss a h1 h2 h3 hf;refine⟨⟨a,h1⟩,h2,h3,fun _=>?_⟩;have h0:s.st.held=[]:=List.length_eq_zero_iff.1 (by omega);show readR s.d s.st.held=none;rw[h0,readR_nil]
 |succ f ih=>
  intro s ss a h1 h2 h3 hf;unfold servF;split
  ·cases hr:readR s.d s.st.held with
   |none=>exact⟨⟨a,h1⟩,h2,h3,fun _=>hr⟩
   |some x=>
    simp only
    have hlen:=afterS_len hr;obtain⟨⟨a',b1⟩,b2,b3⟩:=(h1.got hd hg hl hQ hr sv pt ex ss).tell hP;have n1:=h2.got sv pt ex x;exact ih _ _ a' b1 (fun y hy p hp=>n1 y (b3 y hy) p hp) b2 (by show(afterS s.st x).held.length≤f;omega)
  ·rename_i hw;exact⟨⟨a,h1⟩,h2,h3,fun h=>absurd h hw⟩
end
variable {i o k m:Nat}{s:CliQ}{piece:List UInt8}{r:Reply}{u:SrvQ}
structure Ply where
 d:Nat→Int
 cs:Nat→List Cmd
 Q:Nat→Int→PS→Prop
 P:Nat→List UInt8→Nat→Prop
structure PlyOk (p:Ply):Prop where
 hd:∀i,p.d i=1∨p.d i=2∨p.d i=3
 hg:∀i,∀x∈p.cs i,GoodC (p.d i) x
 hl:∀i,(p.cs i).length≤65535
 hQ:∀i k q,(q= .fl∨∃o id,q= .op o id)→p.Q i k q
 hP:∀i,TellP (p.d i) (p.cs i) (p.Q i) (p.P i)
def StI (p:Ply)(win:Nat)(rest:Nat→List UInt8)(F:Nat→Prop)(st:List CliQ×List SrvQ):Prop:=∀(i:Nat) (s:CliQ),st.1[i]?=some s→(∃a,CInv (p.d i) (p.cs i) (rest i) (p.Q i) (p.P i) s a)∧NPart st.2 s.qs∧(F i→NormC win s)
section
variable {p:Ply}{sv pt win:Nat}{rest:Nat→List UInt8}{F:Nat→Prop}{st:List CliQ×List SrvQ}
theorem StI.run (hp:PlyOk p)(h:StI p win rest F st)(i:Nat):StI p win rest (fun j=>F j∨j=i) (runJ sv pt win i st):=by
 have hin:=runJ_in sv pt win i st;unfold runJ at hin⊢;cases hs:st.1[i]?with
 |none=>
  simp only[hs]at hin⊢;intro j s hj;obtain⟨h1,h2,h3⟩:=h j s hj;refine⟨h1,h2,fun hf=>?_⟩;rcases hf with e|e
  ·exact h3 e
  ·rw[e,hs]at hj;cases hj
 |some s=>
  simp only[hs]at hin⊢;obtain⟨⟨a,h1⟩,h2,h3⟩:=h i s hs;obtain⟨⟨a',t1⟩,t2,t3⟩:=h1.tell (hp.hP i);have hv:=serv_inv (hp.hd i) (hp.hg i) (hp.hl i) (hp.hQ i) (hp.hP i) sv pt win (exAt st.1 i) _ (tellQs s) st.2 a' t1 (fun y hy q hq=>h2 y (t3 y hy) q hq) t2 (Nat.le_refl _);intro j s' hj;rw[List.getElem?_set]at hj;split at hj
  ·rename_i e;subst e;split at hj
   ·cases hj;exact⟨hv.1,hv.2.1,fun _=>hv.2.2⟩
   ·cases hj
  ·rename_i e;obtain⟨g1,g2,g3⟩:=h j s' hj;exact⟨g1,g2.same hin,fun hf=>g3 (by rcases hf with e1|e1;exact e1;exact absurd e1.symm e)⟩
theorem StI.more {G:Nat→Prop}(h:StI p win rest F st)(hg:∀i,i<st.1.length→G i→F i):StI p win rest G st:=fun i s hs=>by
 obtain⟨h1,h2,h3⟩:=h i s hs
 exact⟨h1,h2,fun hG=>h3 (hg i (List.getElem?_eq_some_iff.1 hs).1 hG)⟩
theorem StI.runs (hp:PlyOk p)(h:StI p win rest F st):∀n,StI p win rest (fun j=>F j∨j<n) (runsJ sv pt win n st):=by
 intro n;induction n with
 |zero=>exact h.more (fun i _ hG=>by rcases hG with e|e;exact e;omega)
 |succ n ih=>
  rw[runsJ_succ];exact(StI.run hp ih n).more (fun i _ hG=>by rcases hG with e|e;exact .inl (.inl e);by_cases hi:i=n;exact .inr hi;exact .inl (.inr (by omega)))
theorem failP_cases (o:Nat)(q:PS):failP o q=q∨failP o q= .fl:=by
 cases q using PS.el with
 |op a id=>unfold failP;by_cases h:a=o;simp[h];simp[h]
 |_=>exact .inl rfl
theorem StI.fellI (hp:PlyOk p)(h:StI p win rest F st)(o:Nat):StI p win rest (fun _=>False) (st.1.map (failC o),fellS o st.2):=by
 intro i s' hs';have hs2:(st.1.map (failC o))[i]?=some s':=hs';rw[List.getElem?_map]at hs2;cases hs:st.1[i]?with
 |none=>rw[hs]at hs2;cases hs2
 |some s=>
  rw[hs]at hs2;have hs3:s'=failC o s:=by simpa using hs2.symm
  subst hs3;obtain⟨⟨a,h1⟩,h2,_⟩:=h i s hs;have hlen:(failC o s).qs.length=s.qs.length:=by simp[failC]
  refine⟨⟨a,h1.di,h1.ps0,h1.cl0,fun k x hx=>?_,?_,by rw[hlen];exact h1.le,h1.td⟩,fun x hx q hq=>?_,fun hf=>hf.elim⟩
  ·have hx2:(s.qs.map (failQ o))[k]?=some x:=hx;rw[List.getElem?_map]at hx2;cases hy:s.qs[k]?with
   |none=>rw[hy]at hx2;cases hx2
   |some y=>
    rw[hy]at hx2;have hx3:x=failQ o y:=by simpa using hx2.symm
    subst hx3;obtain⟨c,e1,e2,e3,e4⟩:=h1.cm k y hy;refine⟨c,e1,e2,by show(y.ps.map _).length=_;rw[List.length_map];exact e3,fun q hq=>?_⟩;obtain⟨q0,hq0,e⟩:=List.mem_map.1 (show q∈y.ps.map (failP o)from hq);rcases failP_cases o q0 with f|f
    ·rw[←e,f];exact e4 q0 hq0
    ·rw[←e,f];exact hp.hQ i _ _ (.inl rfl)
  ·rw[hlen];exact h1.tx
  ·obtain⟨y,hy,e⟩:=List.mem_map.1 (show x∈s.qs.map (failQ o)from hx);rw[←e]at hq;obtain⟨q0,hq0,e2⟩:=List.mem_map.1 (show q∈y.ps.map (failP o)from hq);obtain⟨n1,n2⟩:=h2 y hy q0 hq0;rw[←e2];cases q0 using PS.el with
   |un=>exact absurd rfl n1
   |an st' v=>exact⟨fun h=>(by cases h),fun o id h=>(by cases h)⟩
   |fl=>exact⟨fun h=>(by cases h),fun o id h=>(by cases h)⟩
   |op b id=>
    have ef:failP o (.op b id)=if b=o then .fl else .op b id:=rfl
    rw[ef];by_cases hb:b=o
    ·rw[if_pos hb];exact⟨fun h=>(by cases h),fun o id h=>(by cases h)⟩
    ·rw[if_neg hb];refine⟨fun h=>(by cases h),fun o' id' h=>?_⟩;cases h;obtain⟨u,u1,u2⟩:=n2 b id rfl;refine⟨u,?_,u2⟩;show(fellS o st.2)[b]?=some u;unfold fellS;split
     ·exact u1
     ·rw[List.getElem?_set_ne (fun e=>hb e.symm)];exact u1
theorem StI.fall (hp:PlyOk p)(h:StI p win rest F st)(o:Nat):StI p win rest (fun _=>True) (fallJ sv pt win o st):=by
 have h0:=h.fellI hp o;have h1:=StI.runs (sv:=sv) (pt:=pt) hp h0 st.1.length;unfold fallJ;refine h1.more (fun i hi _=> .inr ?_);rw[runsJ_len]at hi;simpa using hi
theorem StI.tookI (h:StI p win rest (fun _=>True) st){r:List UInt8}(hs:st.1[i]?=some s)(hr:rest i=piece++r):StI p win (fun j=>if j=i then r else rest j) (fun j=>j≠i) (st.1.set i (tookQ s piece),st.2):=by
 intro j s' hj;have hj':(st.1.set i (tookQ s piece))[j]?=some s':=hj;rw[List.getElem?_set]at hj';split at hj'
 ·rename_i e;subst e;split at hj'
  ·cases hj';obtain⟨⟨a,h1⟩,h2,h3⟩:=h i s hs;have ht:takeS s.st piece=⟨s.st.held++piece,false,false⟩:=by unfold takeS;rw[h1.cl0,h1.ps0];simp
   refine⟨⟨a,h1.di,by show(takeS s.st piece).pass=false;rw[ht],by show(takeS s.st piece).closed=false;rw[ht],h1.cm,?_,h1.le,h1.td⟩,h2,fun e=>absurd rfl e⟩;show(takeS s.st piece).held++(if i=i then r else rest i)=_;rw[if_pos rfl,ht,List.append_assoc,←hr];exact h1.tx
  ·cases hj'
 ·rename_i e;obtain⟨h1,h2,h3⟩:=h j s' hj';rw[show(fun j=>if j=i then r else rest j) j=rest j from if_neg (fun e'=>e e'.symm)];exact⟨h1,h2,fun _=>h3 trivial⟩
theorem StI.said (hp:PlyOk p)(h:StI p win rest (fun _=>True) st){r:List UInt8}(hr:rest i=piece++r):StI p win (fun j=>if j=i then r else rest j) (fun _=>True) (saidJ sv pt win i piece st):=by
 unfold saidJ;split
 ·rename_i hs;intro j s hj;obtain⟨h1,h2,h3⟩:=h j s hj;have hne:j≠i:=fun e=>by rw[e,hs]at hj;cases hj
  rw[show(fun j=>if j=i then r else rest j) j=rest j from if_neg hne];exact⟨h1,h2,h3⟩
 ·rename_i s hs;have h0:=h.tookI hs hr;exact(StI.run hp h0 i).more (fun j _ _=>by by_cases hj:j=i;exact .inr hj;exact .inl hj)
theorem StI.anI (hp:PlyOk p)(h:StI p win rest (fun _=>True) st)(hu:st.2[o]?=some u)(hh:hearO st.1 u o= .got i k m r)(hq:p.Q i (kindAt st.1 i k) (.an r.st r.val)):StI p win rest (fun j=>j≠i) (anJ st.1 i k m r,st.2.set o {u with held:=u.held.drop r.used}):=by
 obtain⟨_,_,hf,hm,_⟩:=hearO_got hh;obtain⟨j,s,x,e0,hs,hx,hxm⟩:=findP_some o r.id st.1 0 i k m hf;rw[Nat.zero_add]at e0;subst e0;have hka:kindAt st.1 i k=x.c.kind:=by unfold kindAt;rw[hs];simp only;rw[hx]
 have hup:∀b,upAt st.2 b→upAt (st.2.set o {u with held:=u.held.drop r.used}) b:=fun b hb=>by
  obtain⟨v,v1,v2⟩:=hb;by_cases hbo:b=o
  ·subst hbo;rw[hu]at v1;cases v1;exact⟨_,List.getElem?_set_self (List.getElem?_eq_some_iff.1 hu).1,v2⟩
  ·exact⟨v,by rw[List.getElem?_set_ne (fun e=>hbo e.symm)];exact v1,v2⟩
 have eA:anJ st.1 i k m r=st.1.set i (anC s k m r):=by unfold anJ;rw[hs]
 have eC:anC s k m r={s with qs:=s.qs.set k ⟨x.c,x.ps.set m (.an r.st r.val)⟩}:=by unfold anC;rw[hx]
 intro j s' hj;have hj':(anJ st.1 i k m r)[j]?=some s':=hj;rw[eA,List.getElem?_set]at hj';split at hj'
 ·rename_i e;subst e;split at hj'
  ·cases hj';obtain⟨⟨a,h1⟩,h2,_⟩:=h i s hs;have hlen:(anC s k m r).qs.length=s.qs.length:=by rw[eC];simp
   refine⟨⟨a,?_,?_,?_,fun k' y hy=>?_,?_,by rw[hlen];exact h1.le,?_⟩,fun y hy q hq'=>?_,fun e=>absurd rfl e⟩
   ·rw[eC];exact h1.di
   ·rw[eC];exact h1.ps0
   ·rw[eC];exact h1.cl0
   ·rw[eC]at hy;have hy':(s.qs.set k ⟨x.c,x.ps.set m (.an r.st r.val)⟩)[k']?=some y:=hy;rw[List.getElem?_set]at hy';split at hy'
    ·rename_i e;subst e;split at hy'
     ·cases hy';obtain⟨c,e1,e2,e3,e4⟩:=h1.cm k x hx;refine⟨c,e1,e2,by show(x.ps.set _ _).length=_;rw[List.length_set];exact e3,fun q hq'=>?_⟩;rcases List.mem_or_eq_of_mem_set hq' with f|f
      ·exact e4 q f
      ·rw[f];rw[hka,e2]at hq;exact hq
     ·cases hy'
    ·exact h1.cm k' y hy'
   ·rw[hlen];have:=h1.tx;rw[eC];exact this
   ·rw[eC];exact h1.td
   ·rw[eC]at hy;rcases List.mem_or_eq_of_mem_set (show y∈s.qs.set k ⟨x.c,x.ps.set m (.an r.st r.val)⟩from hy)with f|f
    ·exact⟨(h2 y f q hq').1,fun o' id' e=>hup o' ((h2 y f q hq').2 o' id' e)⟩
    ·rw[f]at hq';rcases List.mem_or_eq_of_mem_set (show q∈x.ps.set m (.an r.st r.val)from hq')with g|g
     ·have hxm2:=List.mem_of_getElem? hx;exact⟨(h2 x hxm2 q g).1,fun o' id' e=>hup o' ((h2 x hxm2 q g).2 o' id' e)⟩
     ·rw[g];exact⟨fun h=>(by cases h),fun o id h=>(by cases h)⟩
  ·cases hj'
 ·obtain⟨g1,g2,g3⟩:=h j s' hj';exact⟨g1,fun y hy q hq'=>⟨(g2 y hy q hq').1,fun o' id' e=>hup o' ((g2 y hy q hq').2 o' id' e)⟩,fun _=>g3 trivial⟩
theorem StI.an (hp:PlyOk p)(h:StI p win rest (fun _=>True) st)(hu:st.2[o]?=some u)(hh:hearO st.1 u o= .got i k m r)(hq:p.Q i (kindAt st.1 i k) (.an r.st r.val)):StI p win rest (fun _=>True) (runJ sv pt win i (anJ st.1 i k m r,st.2.set o {u with held:=u.held.drop r.used})):=by
 have h0:=h.anI hp hu hh hq;exact(StI.run hp h0 i).more (fun j _ _=>by by_cases hj:j=i;exact .inr hj;exact .inl hj)
theorem StI.lis (hp:PlyOk p)(hq:∀(cs:List CliQ) (u:SrvQ) (i k m:Nat) (r:Reply),hearO cs u o= .got i k m r→p.Q i (kindAt cs i k) (.an r.st r.val)):∀(f:Nat) (st:List CliQ×List SrvQ),StI p win rest (fun _=>True) st→StI p win rest (fun _=>True) (lisF sv pt win o f st).1:=by
 intro f;induction f with
 |zero=>intro st h;exact h
 |succ f ih=>
  intro st h;unfold lisF;split
  ·exact h
  ·rename_i u hu;split
   ·exact h
   ·rename_i i k m r hh;exact ih _ (h.an hp hu hh (hq _ _ _ _ _ _ hh))
theorem StI.heldI (h:StI p win rest F st)(hu:st.2[o]?=some u)(l:List UInt8):StI p win rest F (st.1,st.2.set o {u with held:=l}):=by
 intro j s hj;obtain⟨g1,g2,g3⟩:=h j s hj;refine⟨g1,fun y hy q hq'=>⟨(g2 y hy q hq').1,fun o' id' e=>?_⟩,g3⟩;obtain⟨v,v1,v2⟩:=(g2 y hy q hq').2 o' id' e;by_cases hbo:o'=o
 ·subst hbo;rw[hu]at v1;cases v1;exact⟨_,List.getElem?_set_self (List.getElem?_eq_some_iff.1 hu).1,v2⟩
 ·exact⟨v,by rw[List.getElem?_set_ne (fun e=>hbo e.symm)];exact v1,v2⟩
theorem StI.answered (hp:PlyOk p)(hq:∀(cs:List CliQ) (u:SrvQ) (i k m:Nat) (r:Reply),hearO cs u o= .got i k m r→p.Q i (kindAt cs i k) (.an r.st r.val))(h:StI p win rest (fun _=>True) st)(piece:List UInt8):StI p win rest (fun _=>True) (answeredJ sv pt win o piece st):=by
 unfold answeredJ;split
 ·exact h
 ·rename_i u hu;have h0:=h.heldI hu (u.held++piece);have h1:=StI.lis (sv:=sv) (pt:=pt) hp hq (heldOf (st.2.set o {u with held:=u.held++piece}) o+1) _ h0;unfold listenJ;split
  ·exact h1
  ·exact h1.fall hp o
theorem StI.up (h:StI p win rest (fun _=>True) st)(o:Nat):StI p win rest (fun _=>True) (st.1,uppedJ o st.2):=by
 intro j s hj;obtain⟨g1,g2,g3⟩:=h j s hj;refine⟨g1,fun y hy q hq'=>⟨(g2 y hy q hq').1,fun o' id' e=>?_⟩,g3⟩;obtain⟨v,v1,v2⟩:=(g2 y hy q hq').2 o' id' e;show upAt (uppedJ o st.2) o';unfold uppedJ;split
 ·exact⟨v,v1,v2⟩
 ·rename_i u hu;by_cases hbo:o'=o
  ·subst hbo;exact⟨_,List.getElem?_set_self (List.getElem?_eq_some_iff.1 hu).1,rfl⟩
  ·exact⟨v,by rw[List.getElem?_set_ne (fun e=>hbo e.symm)];exact v1,v2⟩
theorem StI.end_ (hp:PlyOk p)(h:StI p win rest (fun _=>True) st)(hw:1≤win)(hs:st.1[i]?=some s)(hr:rest i=[])(hd:∀o,¬upAt st.2 o):p.P i s.told (p.cs i).length:=by
 obtain⟨⟨a,h1⟩,h2,h3⟩:=h i s hs;obtain⟨n1,n2⟩:=h3 trivial;have hq:s.qs=[]:=by
  cases hc:s.qs with
  |nil=>rfl
  |cons x l=>
   exfalso;refine n1 x l hc ?_;have hx:x∈s.qs:=by rw[hc];simp
   unfold QS.n;rw[List.countP_eq_zero];intro q hq;obtain⟨m1,m2⟩:=h2 x hx q hq;cases q using PS.el with
   |un=>exact absurd rfl m1
   |op o id=>exact absurd (m2 o id rfl) (hd o)
   |an _ _=>simp[PS.opn]
   |fl=>simp[PS.opn]
 have ht:=h1.tx;have hle:=h1.le;rw[hr,List.append_nil]at ht;have n2':=n2 (by rw[hq];simp;omega);rw[hq]at ht hle;simp only[List.length_nil,Nat.add_zero]at ht hle;have ha:a=(p.cs i).length:=by
  by_cases hlt:a<(p.cs i).length
  ·exfalso;rw[h1.di,ht,List.drop_eq_getElem_cons hlt]at n2';have g:=hp.hg i _ (List.getElem_mem hlt);have hl:=hp.hl i;have hk:=ask_round (p.d i) (p.cs i)[a].kind (p.cs i)[a].keys (p.cs i)[a].val (a:Int) (asksFrom (p.d i) (a+1) ((p.cs i).drop (a+1))) (hp.hd i) (askable_of g.cmd) (fun h2=>⟨g.one h2,by omega,by omega⟩);have e:asksFrom (p.d i) a ((p.cs i)[a]::(p.cs i).drop (a+1))=(askS (p.d i) (p.cs i)[a].kind (p.cs i)[a].keys (p.cs i)[a].val a).data.toList++asksFrom (p.d i) (a+1) ((p.cs i).drop (a+1)):=rfl;rw[e,hk]at n2';cases n2'
  ·omega
 rw[←ha];exact h1.td
end
theorem hear_ok {cs:List CliQ}(h:hearO cs u o= .got i k m r):PSOk (kindAt cs i k) (.an r.st r.val):=by
 obtain⟨_,_,_,hm,hf⟩:=hearO_got h;unfold fromR at hf;split at hf
 ·cases hf
 ·split at hf
  ·cases hf
  ·rename_i h2;split at hf
   ·cases hf
   ·have hr:(⟨byAt u.held 1,numAt u.held 5,bytesOf u.held 7 (numAt u.held 3),7+numAt u.held 3⟩:Reply)=r:=by
     simpa using hf
    rw[←hr]at hm⊢;refine⟨?_,?_,?_⟩
    ·show byAt u.held 1≤2;omega
    ·show(bytesOf u.held 7 (numAt u.held 3)).size≤40;have:(bytesOf u.held 7 (numAt u.held 3)).size≤numAt u.held 3:=by unfold bytesOf;simp[ByteArray.size];omega
     omega
    ·unfold mayB at hm;rw[Bool.or_eq_true,Bool.and_eq_true,decide_eq_true_eq,decide_eq_true_eq]at hm;rcases hm with e|e
     ·exact .inr e
     ·left;rw[ByteArray.toList_eq]at e;exact e
end Go.Proofs.YtlonjggfnleolaaGreatDoor
namespace Go.Proofs.YtlonjggfnleolaaGreatDoor
open Go.RowKit
set_option linter.unusedVariables false
variable {d:Int}
theorem lastL_app (l m:List UInt8):lastL (l++m)=m.foldl lastF (lastL l):=by unfold lastL;rw[List.foldl_append]
theorem dec_last:∀n:Nat,n≤40→((dec100 n).data.toList++[10]).foldl lastF 0=n:=by decide+kernel
theorem lastL_dec (X:List UInt8)(c:UInt8)(hc:c=32∨c=36∨c=42)(n:Nat)(hn:n≤40):lastL (X++c::((dec100 n).data.toList++[10]))=n:=by
 rw[show X++c::((dec100 n).data.toList++[10])=(X++[c])++((dec100 n).data.toList++[10])by simp,lastL_app,lastL_snoc];have e:lastF (lastL X) c=0:=by
  unfold lastF;rcases hc with e|e|e<;>(subst e;rfl)
 rw[e];exact dec_last n hn
theorem dec_head:∀n:Nat,n≤40→(dec100 n).data.toList.headD 45≠45:=by decide+kernel
theorem dec_cons (n:Nat)(hn:n≤40):∃b l,(dec100 n).data.toList=b::l∧b≠45:=by
 have h:=dec_head n hn;cases hd:(dec100 n).data.toList with
 |nil=>rw[hd]at h;exact absurd rfl h
 |cons b l=>rw[hd]at h;exact⟨b,l,rfl,h⟩
theorem no10_dec (n:Nat)(hn:n≤40):∀b∈(dec100 n).data.toList,b≠10:=fun b hb=>(plain_dec n (by omega) b hb).2
theorem no10_key {s:ByteArray}(h:keyB s=true):∀b∈s.data.toList,b≠10:=fun b hb=>(plain_key h b hb).2
def valL (p:Bool×ByteArray×ByteArray):List UInt8:=(valB p).data.toList
theorem li_list:∀(ts:List (Bool×ByteArray×ByteArray)),(liFold ts).data.toList=ts.flatMap valL:=by
 have:∀(ts:List (Bool×ByteArray×ByteArray)) (a:ByteArray),(ts.foldl (fun s p=>s++valB p) a).data.toList=a.data.toList++ts.flatMap valL:=by
  intro ts;induction ts with
  |nil=>intro a;simp
  |cons p ts ih=>intro a;rw[List.foldl_cons,ih,toList_app,List.flatMap_cons,List.append_assoc];rfl
 intro ts;have h:=this ts ⟨#[]⟩;exact h
theorem li_sz:∀(ts:List (Bool×ByteArray×ByteArray)),(∀p∈ts,keyB p.2.1=true∧p.2.2.size≤40)→SzOk 1 (ts.flatMap valL++[101,110,100,10])∧∀r,begB (mkB (ts.flatMap valL++[101,110,100,10]++r)) ⟨#[102,97,105,108,32]⟩=false:=by
 intro ts;induction ts with
 |nil=>
  intro _;exact⟨sz_plain1 (b:=101) (L:=[110,100]) (by decide) (by decide),fun r=>head_no (by decide)⟩
 |cons p ts ih=>
  intro h;obtain⟨i1,i2⟩:=ih (fun q hq=>h q (by simp[hq]));obtain⟨hk,hv⟩:=h p (by simp);have hks:=keyB_size' hk;rw[List.flatMap_cons];cases hp:p.1 with
  |false=>
   have e:valL p=[]:=by unfold valL valB;rw[hp];rfl
   rw[e];exact⟨i1,i2⟩
  |true=>
   have e:valL p=([118,97,108,117,101,32]++p.2.1.data.toList++[32]++(dec100 p.2.2.size).data.toList)++10::(p.2.2.data.toList++[10]):=by
    unfold valL valB sizedB;rw[hp];simp
   rw[e];have e2:([118,97,108,117,101,32]++p.2.1.data.toList++[32]++(dec100 p.2.2.size).data.toList)++10::(p.2.2.data.toList++[10])++ts.flatMap valL++[101,110,100,10]=([118,97,108,117,101,32]++p.2.1.data.toList++[32]++(dec100 p.2.2.size).data.toList)++10::(p.2.2.data.toList++10::(ts.flatMap valL++[101,110,100,10])):=by simp
   rw[e2];have hdl:=dec100_len p.2.2.size;have hkl:=len_size' p.2.1;refine⟨sz_val1 ?_ ?_ ?_ ?_ i1 i2,fun r=>?_⟩
   ·intro b hb;simp only[List.mem_append]at hb;rcases hb with((hb|hb)|hb)|hb
    ·revert b;decide
    ·exact no10_key hk b hb
    ·simp at hb;rw[hb];decide
    ·exact no10_dec _ hv b hb
   ·simp only[List.length_append,List.length_cons,List.length_nil]
    omega
   ·intro r;show List.isPrefixOf [118,97,108,117,101,32] (mkB _).data.toList=true;rw[List.isPrefixOf_iff_prefix];refine⟨p.2.1.data.toList++[32]++(dec100 p.2.2.size).data.toList++10::r,?_⟩;simp[mkB]
   ·rw[show [118,97,108,117,101,32]++p.2.1.data.toList++[32]++(dec100 p.2.2.size).data.toList++[10]=([118,97,108,117,101,32]++p.2.1.data.toList)++32::((dec100 p.2.2.size).data.toList++[10])by simp,lastL_dec _ 32 (.inl rfl) _ hv,len_size']
   ·exact head_no (by decide)
def tvL (p:Bool×ByteArray):List UInt8:=(tvB p).data.toList
theorem ls_list:∀(ts:List (Bool×ByteArray)),(lsFold ts).data.toList=(ts.map tvL).flatten:=by
 have:∀(ts:List (Bool×ByteArray)) (a:ByteArray),(ts.foldl (fun s p=>s++tvB p) a).data.toList=a.data.toList++(ts.map tvL).flatten:=by
  intro ts;induction ts with
  |nil=>intro a;simp
  |cons p ts ih=>intro a;rw[List.foldl_cons,ih,toList_app,List.map_cons,List.flatten_cons,List.append_assoc];rfl
 intro ts;exact this ts ⟨#[]⟩
theorem tv_sz {p:Bool×ByteArray}(hv:p.2.size≤40):SzOk 3 (tvL p):=by
 cases hp:p.1 with
 |false=>
  have e:tvL p=[36,45,49,10]:=by unfold tvL tvB;rw[hp];rfl
  rw[e];exact sz_none3
 |true=>
  have e:tvL p=36::(dec100 p.2.size).data.toList++10::(p.2.data.toList++[10]):=by
   unfold tvL tvB textB sizedB;rw[hp];simp
  rw[e];have hdl:=dec100_len p.2.size;obtain⟨b,l,hd,hb⟩:=dec_cons p.2.size hv;refine sz_val3 ?_ (by omega) (fun r=>?_) ?_
  ·intro x hx;rcases List.mem_cons.1 hx with e|e
   ·rw[e];decide
   ·exact no10_dec _ hv x e
  ·rw[hd];show List.isPrefixOf [36,45,49] (36::b::(l++10::r))=false;have:((45:UInt8)==b)=false:=by simpa using fun e=>hb e.symm
   simp[List.isPrefixOf,this]
  ·have:=lastL_dec [] 36 (.inr (.inl rfl)) p.2.size hv;rw[len_size'];exact this
theorem head_by (a b c size id:Int)(v:List UInt8)(hs:0≤size∧size<256):byAt ((headB a b c size id).data.toList++v) 3=size.toNat∧byAt ((headB a b c size id).data.toList++v) 4=0∧(headB a b c size id).data.toList.length=7:=by
 have e:(headB a b c size id).data.toList=[UInt8.ofNat a.toNat,UInt8.ofNat b.toNat,UInt8.ofNat c.toNat,UInt8.ofNat (size % 256).toNat,UInt8.ofNat (size / 256).toNat,UInt8.ofNat (id % 256).toNat,UInt8.ofNat (id / 256).toNat]:=by
  simp[headB,strOfNums]
 rw[e];refine⟨?_,?_,rfl⟩
 ·show(UInt8.ofNat (size % 256).toNat).toNat=_;rw[ofNat_lt _ (by omega)];omega
 ·show(UInt8.ofNat (size / 256).toNat).toNat=_;rw[ofNat_lt _ (by omega)];omega
theorem tell_sz {ck ak id:Int}{ss:List ByteArray}{bs:List Bool}{vs:List ByteArray}{wd:ByteArray}(hd:d=1∨d=2∨d=3)(h:(ak=1∧Found ss bs vs∧∀s∈ss,keyB s=true)∨(ak≠1∧∀b∈wd.data.toList,b≠10)):SzOk d (tellS d ck ak ss bs vs wd id).data.toList:=by
 unfold tellS;rcases h with⟨e1,F,hk⟩|⟨e1,hw⟩
 ·rcases hd with e|e|e
  ·rw[if_pos e,if_pos e1,toList_app,li_list,e];refine(li_sz _ (fun p hp=>?_)).1;have h1:=(List.of_mem_zip hp).2;have h2:=List.of_mem_zip (a:=p.2.1) (b:=p.2.2) h1;exact⟨hk _ h2.1,F.v40 _ h2.2⟩
  ·rw[if_neg (by omega),if_pos e,if_pos e1,toList_app,e];have hv:(vs.headD ⟨#[]⟩).size≤40:=by
    cases vs with
    |nil=>exact Nat.zero_le _
    |cons a l=>exact F.v40 a (by simp)
   obtain⟨b3,b4,b7⟩:=head_by 2 (bif bs.headD false then 0 else 1) 0 ((vs.headD ⟨#[]⟩).size:Int) id (vs.headD ⟨#[]⟩).data.toList (by omega);have hl:=len_size' (vs.headD ⟨#[]⟩);refine sz_frame (by rw[List.length_append,b7];omega) ?_;rw[b3,b4,List.length_append,b7];omega
  ·rw[if_neg (by omega),if_neg (by omega),if_pos e1,e];unfold lsVals;have hz:(bs.zip vs).length=ss.length:=by rw[List.length_zip,F.bl,F.vl];omega
   have hall:∀t∈(bs.zip vs).map tvL,SzOk 3 t:=fun t ht=>by
    obtain⟨p,hp,rfl⟩:=List.mem_map.1 ht;exact tv_sz (F.v40 _ (List.of_mem_zip hp).2)
   split
   ·rename_i h1;rw[ls_list];cases hb:bs.zip vs with
    |nil=>rw[hb]at hz;simp at hz;omega
    |cons p l=>
     rw[hb]at hz hall;have hl0:l=[]:=List.length_eq_zero_iff.1 (by simp at hz;omega);rw[hl0];have:=hall (tvL p) (by simp);simpa using this
   ·have e2:((⟨#[42]⟩:ByteArray)++dec100 ss.length++⟨#[10]⟩++lsFold (bs.zip vs)).data.toList=42::(dec100 ss.length).data.toList++10::((bs.zip vs).map tvL).flatten:=by
     rw[toList_app,ls_list];simp
    rw[e2];have hdl:=dec100_len ss.length;have h4:=F.l4;refine sz_many3 ?_ (by omega) ?_ hall
    ·intro x hx;rcases List.mem_cons.1 hx with e|e
     ·rw[e];decide
     ·exact no10_dec _ (by omega) x e
    ·have:=lastL_dec [] 42 (.inr (.inr rfl)) ss.length (by omega);rw[List.length_map,hz];exact this
 ·rcases hd with e|e|e
  ·rw[if_pos e,if_neg e1,e];unfold liTellB;split
   ·exact sz_plain1 (b:=100) (L:=[111,110,101]) (by decide) (by decide)
   ·split
    ·exact sz_plain1 (b:=103) (L:=[111,110,101]) (by decide) (by decide)
    ·split
     ·exact sz_plain1 (b:=110) (L:=[111,110,101]) (by decide) (by decide)
     ·have e2:((⟨#[102,97,105,108,32]⟩:ByteArray)++wd++⟨#[10]⟩).data.toList=102::([97,105,108,32]++wd.data.toList)++[10]:=by simp
      rw[e2];refine sz_plain1 (fun x hx=>?_) (by decide);rcases List.mem_cons.1 hx with f|f
      ·rw[f];decide
      ·rcases List.mem_append.1 f with f2|f
       ·have hz:∀y∈([97,105,108,32]:List UInt8),y≠10:=by decide
        exact hz x f2
       ·exact hw x f
  ·rw[if_neg (by omega),if_pos e,if_neg e1,e];obtain⟨b3,b4,b7⟩:=head_by 2 (stB ak) 0 0 (tidB ck id) [] (by omega);rw[List.append_nil]at b3 b4;refine sz_frame (by omega) ?_;rw[b3,b4,b7];rfl
  ·rw[if_neg (by omega),if_neg (by omega),if_neg e1,e];unfold lsTellB;split
   ·exact sz_plain3 (b:=43) (L:=[100,111,110,101]) (by decide) (by decide) (by decide)
   ·split
    ·exact sz_plain3 (b:=58) (L:=[49]) (by decide) (by decide) (by decide)
    ·split
     ·exact sz_plain3 (b:=58) (L:=[48]) (by decide) (by decide) (by decide)
     ·have e2:((⟨#[45]⟩:ByteArray)++wd++⟨#[10]⟩).data.toList=45::wd.data.toList++[10]:=by simp
      rw[e2];refine sz_plain3 (fun x hx=>?_) (by decide) (by decide);rcases List.mem_cons.1 hx with f|f
      ·rw[f];decide
      ·exact hw x f
theorem wd_no10 (x:QS):∀b∈x.wd.data.toList,b≠10:=by
 unfold QS.wd;split
 ·decide
 ·split
  ·decide
  ·intro b hb;cases hb
theorem told_sz (hd:d=1∨d=2∨d=3){c:Cmd}(hg:GoodC d c)(a:Nat){ps:List PS}(hl:ps.length=c.keys.length)(hp:∀p∈ps,PSOk c.kind p):SzOk d (toldB d ⟨cmdN d a c,ps⟩).data.toList:=by
 have A:=askable_of hg.cmd;have hne:c.keys≠[]:=fun e=>by have:=A.len1;rw[e]at this;simp at this
 unfold toldB;rw[if_neg (show¬(cmdN d a c).keys=[]from hne)];refine tell_sz hd ?_;by_cases h1:(⟨cmdN d a c,ps⟩:QS).ak=1
 ·refine .inl ⟨h1,⟨?_,?_,A.len1,A.len4,fun s hs=>(keyB_size' (A.keys s hs)).2,fun v hv=>?_,fun p hq=>?_⟩,A.keys⟩
  ·rw[List.length_map];exact hl
  ·rw[List.length_map];exact hl
  ·obtain⟨q,hq,rfl⟩:=List.mem_map.1 hv;exact val_size (hp q hq)
  ·rw[List.zip_map']at hq;obtain⟨y,hy,rfl⟩:=List.mem_map.1 hq;exact find_ok (hp y hy)
 ·exact .inr ⟨h1,wd_no10 _⟩
set_option maxHeartbeats 4000000
set_option maxRecDepth 20000
theorem kframe0 (s:ByteArray)(ke vl:Nat)(w:World)(hs:s.size≤100000000000)(h0:0<s.size)(h1:1<s.size)(h2:2<s.size)(h3:3<s.size)(h4:4<s.size)(h5:5<s.size)(h6:6<s.size)(e0:(s[0].toNat:Int)=1)(e2:1≤s[2].toNat)(hke:7+s[2].toNat=ke)(hvl:s[3].toNat+256*s[4].toNat=vl)(hl:ke+vl≤s.size):Calls Tryz.prog 38 #[.string s] w fun e w'=>(∃T,e= .returned (.tuple #[.agg #[.int .i64 (s[1].toNat:Int),.slice (some ⟨T,0,none⟩) 1 1,.string (s.extract ke (ke+vl)),.string ⟨#[]⟩,.bool false,.int .i64 ((s[5].toNat:Int)+(256:Int)*(s[6].toNat:Int))],.int .i64 ((ke+vl:Nat):Int),.bool true])∧w'.heap[T]?=some (.cells #[.string (s.extract 7 ke)] 9 (0,0))∧w.heap.size≤T)∧Below w.heap.size w w':=by
 have q1:=s[1].toNat_lt;have q2:=s[2].toNat_lt;have q3:=s[3].toNat_lt;have q4:=s[4].toNat_lt;have q5:=s[5].toNat_lt;have q6:=s[6].toNat_lt;have hS7:¬(s.size:Int)<7:=by omega
 have i0:(0:Int)<(s.size:Int):=by omega
 have i1:(1:Int)<(s.size:Int):=by omega
 have i2:(2:Int)<(s.size:Int):=by omega
 have i3:(3:Int)<(s.size:Int):=by omega
 have i4:(4:Int)<(s.size:Int):=by omega
 have i5:(5:Int)<(s.size:Int):=by omega
 have i6:(6:Int)<(s.size:Int):=by omega
 have z2:((s[2].toNat:Int)==0)=false:=by rw[beq_eq_false_iff_ne];omega
 have zk:(7:Int)+(s[2].toNat:Int)=(ke:Int):=by omega
 have zv:(s[3].toNat:Int)+(256:Int)*(s[4].toNat:Int)=(vl:Int):=by omega
 have wI:IntKind.i64.wrap ((s[5].toNat:Int)+(256:Int)*(s[6].toNat:Int))=(s[5].toNat:Int)+(256:Int)*(s[6].toNat:Int):=wrap_small _ (by omega) (by omega);have wJ:IntKind.i64.wrap ((256:Int)*(s[6].toNat:Int))=(256:Int)*(s[6].toNat:Int):=wrap_small _ (by omega) (by omega);have wK:IntKind.i64.wrap ((256:Int)*(s[4].toNat:Int))=(256:Int)*(s[4].toNat:Int):=wrap_small _ (by omega) (by omega);have w1:IntKind.i64.wrap (s[1].toNat:Int)=(s[1].toNat:Int):=wrap_small _ (by omega) (by omega);have w3:IntKind.i64.wrap (s[3].toNat:Int)=(s[3].toNat:Int):=wrap_small _ (by omega) (by omega);have w4:IntKind.i64.wrap (s[4].toNat:Int)=(s[4].toNat:Int):=wrap_small _ (by omega) (by omega);have w5:IntKind.i64.wrap (s[5].toNat:Int)=(s[5].toNat:Int):=wrap_small _ (by omega) (by omega)
 have w6:IntKind.i64.wrap (s[6].toNat:Int)=(s[6].toNat:Int):=wrap_small _ (by omega) (by omega);have wV:IntKind.i64.wrap (vl:Int)=(vl:Int):=wrap_small _ (by omega) (by omega);have wN:IntKind.i64.wrap ((ke:Int)+(vl:Int))=(ke:Int)+(vl:Int):=wrap_small _ (by omega) (by omega);have j1:(7:Int)≤(ke:Int):=by omega
 have j2:(ke:Int)≤(s.size:Int):=by omega
 have j3:ke≤s.size:=by omega
 have j4:¬(s.size:Int)<(ke:Int)+(vl:Int):=by omega
 have j5:7≤ke:=by omega
 have HH:=hide' (And.intro hke (And.intro hvl (And.intro hl e2)));clear hke hvl e2;go_enter Tryz.func38,Tryz.ntmps38;go_wp2_with fail
 go_region
 go_wp2_with fail
 have HBl:Hid (∀W,Below (w.heap.size+1) (w.alloc (.cells #[.int .i64 0,.slice none 0 0,.string ⟨#[]⟩,.string ⟨#[]⟩,.bool false,.int .i64 0] 36)) W→Below w.heap.size w W):=fun W h=>((Below.refl _ _).alloc (Nat.le_refl _) _).trans (h.mono (by omega))
 go_big_region
 go_wp2_with fail
 refine bodyPost_ret (v:= .tuple #[.agg #[.int .i64 (s[1].toNat:Int),.slice (some ⟨w.heap.size+1,0,none⟩) 1 1,.string (s.extract ke (ke+vl)),.string ⟨#[]⟩,.bool false,.int .i64 ((s[5].toNat:Int)+(256:Int)*(s[6].toNat:Int))],.int .i64 ((ke:Int)+(vl:Int)),.bool true]) (by simp[results,Tryz.results38,go_sem]) rfl ⟨⟨w.heap.size+1,by rw[show((ke+vl:Nat):Int)=(ke:Int)+(vl:Int)by omega],?_,by omega⟩,?_⟩
 ·exact hs_drew (hs_drew (hs_new (by simp)))
 ·exact((((Below.refl _ _).alloc (Nat.le_refl _) _).alloc (by simp) _).drew).drew
structure Fr where
 k:Int
 key:ByteArray
 val:ByteArray
 id:Nat
def Fr.by_ (f:Fr):List UInt8:=(sentB f.k f.key f.val f.id).data.toList
structure FrOk (f:Fr):Prop where
 k:f.k=1∨f.k=2∨f.k=3
 key:keyB f.key=true
 val:f.val.size≤40
 id:f.id<65536
theorem Fr.by_eq (f:Fr)(h:FrOk f):f.by_=[1,UInt8.ofNat f.k.toNat,UInt8.ofNat f.key.size,UInt8.ofNat f.val.size,0,UInt8.ofNat (f.id % 256),UInt8.ofNat (f.id / 256)]++f.key.data.toList++f.val.data.toList:=by
 have hv:=h.val;have z1:((f.val.size:Int) % 256).toNat=f.val.size:=by omega
 have z2:((f.val.size:Int) / 256).toNat=0:=by omega
 have z3:((f.id:Int) % 256).toNat=f.id % 256:=by omega
 have z4:((f.id:Int) / 256).toNat=f.id / 256:=by omega
 unfold Fr.by_ sentB;rw[toList_app,toList_app];simp only[headB,strOfNums,List.map_cons,List.map_nil,z1,z2,z3,z4]
 rfl
theorem ext_mid {pre m post:List UInt8}{a b:Nat}(ha:pre.length=a)(hb:a+m.length=b):(mkB (pre++m++post)).extract a b=mkB m:=by
 subst ha;subst hb;have h:((mkB (pre++m++post)).extract pre.length (pre.length+m.length)).data.toList=m:=by
  simp[mkB]
 rw[←mkB_toList ((mkB (pre++m++post)).extract pre.length (pre.length+m.length)),h]
theorem kframe_any {f:Fr}(hf:FrOk f)(r:List UInt8)(w:World)(hl:(f.by_++r).length≤100000000000):Calls Tryz.prog 38 #[.string (mkB (f.by_++r))] w fun e w'=>(∃T,e= .returned (.tuple #[.agg #[.int .i64 f.k,.slice (some ⟨T,0,none⟩) 1 1,.string f.val,.string ⟨#[]⟩,.bool false,.int .i64 (f.id:Int)],.int .i64 (f.by_.length:Int),.bool true])∧w'.heap[T]?=some (.cells #[.string f.key] 9 (0,0))∧w.heap.size≤T)∧Below w.heap.size w w':=by
 have hk:=keyB_size' hf.key;have hkd:=hf.k;have hv:=hf.val;have hid:=hf.id;have e:=f.by_eq hf;have lk:=len_size' f.key;have lv:=len_size' f.val;have hlen:f.by_.length=7+f.key.size+f.val.size:=by rw[e];simp;omega
 rw[List.length_append,hlen]at hl;have hsz:(mkB (f.by_++r)).size=7+f.key.size+f.val.size+r.length:=by rw[mk_size,List.length_append,hlen]
 have eL:(mkB (f.by_++r)).data.toList=[1,UInt8.ofNat f.k.toNat,UInt8.ofNat f.key.size,UInt8.ofNat f.val.size,0,UInt8.ofNat (f.id % 256),UInt8.ofNat (f.id / 256)]++(f.key.data.toList++f.val.data.toList++r):=by rw[e];simp[mkB]
 have b0:=byAt_str (s:=mkB (f.by_++r)) (k:=0) (by omega);have b1:=byAt_str (s:=mkB (f.by_++r)) (k:=1) (by omega);have b2:=byAt_str (s:=mkB (f.by_++r)) (k:=2) (by omega);have b3:=byAt_str (s:=mkB (f.by_++r)) (k:=3) (by omega);have b4:=byAt_str (s:=mkB (f.by_++r)) (k:=4) (by omega);have b5:=byAt_str (s:=mkB (f.by_++r)) (k:=5) (by omega);have b6:=byAt_str (s:=mkB (f.by_++r)) (k:=6) (by omega);rw[eL]at b0 b1 b2 b3 b4 b5 b6;have c0:(1:UInt8).toNat=(mkB (f.by_++r))[0].toNat:=b0;have c1:(UInt8.ofNat f.k.toNat).toNat=(mkB (f.by_++r))[1].toNat:=b1;have c2:(UInt8.ofNat f.key.size).toNat=(mkB (f.by_++r))[2].toNat:=b2;have c3:(UInt8.ofNat f.val.size).toNat=(mkB (f.by_++r))[3].toNat:=b3;have c4:(0:UInt8).toNat=(mkB (f.by_++r))[4].toNat:=b4
 have c5:(UInt8.ofNat (f.id % 256)).toNat=(mkB (f.by_++r))[5].toNat:=b5;have c6:(UInt8.ofNat (f.id / 256)).toNat=(mkB (f.by_++r))[6].toNat:=b6;rw[ofNat_lt _ (by omega)]at c1 c2 c3 c5 c6;have z0:(1:UInt8).toNat=1:=rfl;have z4:(0:UInt8).toNat=0:=rfl;have x1:(mkB (f.by_++r)).extract 7 (7+f.key.size)=f.key:=by
  rw[e,show [1,UInt8.ofNat f.k.toNat,UInt8.ofNat f.key.size,UInt8.ofNat f.val.size,0,UInt8.ofNat (f.id % 256),UInt8.ofNat (f.id / 256)]++f.key.data.toList++f.val.data.toList++r=[1,UInt8.ofNat f.k.toNat,UInt8.ofNat f.key.size,UInt8.ofNat f.val.size,0,UInt8.ofNat (f.id % 256),UInt8.ofNat (f.id / 256)]++f.key.data.toList++(f.val.data.toList++r)by simp,ext_mid (a:=7) rfl (by rw[lk]),mkB_toList]
 have x2:(mkB (f.by_++r)).extract (7+f.key.size) (7+f.key.size+f.val.size)=f.val:=by
  rw[e,ext_mid (by simp;omega) (by rw[lv]),mkB_toList]
 have h:=kframe0 (mkB (f.by_++r)) (7+f.key.size) f.val.size w (by omega) (by omega) (by omega) (by omega) (by omega) (by omega) (by omega) (by omega) (by omega) (by omega) (by omega) (by omega) (by omega);rw[x1,x2]at h;refine h.mono ?_;rintro e w' ⟨⟨T,rfl,h2,h3⟩,h4⟩;refine⟨⟨T,?_,h2,h3⟩,h4⟩;have y1:(((mkB (f.by_++r))[1].toNat:Nat):Int)=f.k:=by omega
 have y2:((mkB (f.by_++r))[5].toNat:Int)+(256:Int)*((mkB (f.by_++r))[6].toNat:Int)=(f.id:Int):=by omega
 rw[y1,y2,hlen]
end Go.Proofs.YtlonjggfnleolaaGreatDoor
namespace Go.Proofs.YtlonjggfnleolaaGreatDoor
open Go.RowKit Go.Shelf
set_option linter.unusedVariables false
variable {w a b c:World}{s t:SvG}
def ansF (there:Bool)(v:ByteArray)(id:Nat):ByteArray:=strOfNums [2,if there=true then 0 else 1,0,(v.size:Int),0,((id % 256:Nat):Int),((id / 256:Nat):Int)]++v
def workP (st:List (ByteArray×ByteArray)×List ByteArray)(f:Fr):List (ByteArray×ByteArray)×List ByteArray:=
 ((doesP f.k f.key f.val st.1).2,st.2++[ansF (doesP f.k f.key f.val st.1).1.1 (doesP f.k f.key f.val st.1).1.2 f.id])
def worksP (fs:List Fr)(st:List (ByteArray×ByteArray)×List ByteArray):List (ByteArray×ByteArray)×List ByteArray:=fs.foldl workP st
structure SvTo (w w':World)(s s':SvG):Prop where
 at_:SvK w' s'
 b:s'.b=s.b
 chg:Chg s.foot w w'
 lat:∀b∈s'.foot,b∈s.foot∨w.heap.size≤b
theorem SvTo.refl (h:SvK w s):SvTo w w s s:=⟨h,rfl,Chg.refl _ _,fun b hb=> .inl hb⟩
theorem SvTo.trans {u:SvG}(h:SvTo a b s t)(k:SvTo b c t u):SvTo a c s u:=
 ⟨k.at_,k.b.trans h.b,h.chg.trans k.chg h.lat,fun x hx=>by
  rcases k.lat x hx with e|e
  ·exact h.lat x e
  ·exact .inr (Nat.le_trans h.chg.size e)⟩
theorem SvTo.below (h:SvTo a b s t)(k:Below b.heap.size b c):SvTo a c s t:=
 h.trans ⟨h.at_.keep (fun x hx=>k.block x (h.at_.old x hx)),rfl,Chg.of_below k,fun x hx=> .inl hx⟩
theorem SvK.apart (h:SvK w s):s.sv.ownBlock≠some s.b∧s.mv.ownBlock≠some s.b∧∀g,s.sv.ownBlock=some g→s.mv.ownBlock≠some g:=
 ⟨row_type h.rL h.blk (by decide),row_type h.rM h.blk (by decide),fun g hg=>row_row h.rL h.rM (by decide) hg⟩
theorem SvK.does {w':World}(h:SvK w s){v':Value}{L':List (ByteArray×ByteArray)}(hd:ShTo w w' s.b 68 #[s.sv,.int .i64 (s.rd:Int),s.mv] s.sv v' L'):SvTo w w' s {s with sv:=v',L:=L'}:=by
 obtain⟨a1,a2,a3⟩:=h.apart;refine⟨⟨hd.blk,hd.row,ownsRow_other h.rM (fun g hg=>?_)⟩,rfl,hd.chg.more (fun b hb=>?_),fun b hb=>?_⟩
 ·obtain⟨cur,hc⟩:=ownsRow_blk h.rM hg;refine hd.chg.block g (blkLt hc) (fun hm=>?_);rcases List.mem_cons.1 hm with e|e
  ·exact a2 (by rw[hg,e])
  ·exact a3 g (mem_own e) hg
 ·rcases List.mem_cons.1 hb with e|e
  ·rw[e];simp[SvG.foot]
  ·simp only[SvG.foot,List.mem_cons,List.mem_append];exact .inr (.inl e)
 ·unfold SvG.foot at hb;rcases List.mem_cons.1 hb with e|e
  ·exact .inl (by rw[e];simp[SvG.foot])
  ·rcases List.mem_append.1 e with e|e
   ·rcases hd.own b (mem_own e)with f|f
    ·exact .inl (by simp[SvG.foot,f])
    ·exact .inr f
   ·exact .inl (by simp only[SvG.foot,List.mem_cons,List.mem_append];exact .inr (.inr e))
theorem SvK.push {w9:World}(h:SvK w s){O O2:Obj}{g cap n:Nat}{x:ByteArray}(hn:s.made.length=n)(hown:w9.ownsRow 0 9 1 (.slice (some ⟨g,0,none⟩) (n+1) cap) (n+1) (s.made.map .string++[.string x]))(hgr:((w.alloc O).alloc O2).grownBy w9 s.mv.ownBlock)(hat:s.mv.ownBlock=some g∨g=w.heap.size+2):SvTo w (w9.setCell ⟨s.b,2,none⟩ (.slice (some ⟨g,0,none⟩) (n+1) cap)) s {s with mv:= .slice (some ⟨g,0,none⟩) (n+1) cap,made:=s.made++[x]}∧w9.frozen? ⟨s.b,2,none⟩=false∧s.b<w9.heap.size∧w9.cell? ⟨s.b,2,none⟩=some s.mv∧w9.cell? ⟨s.b,1,none⟩=some (.int .i64 (s.rd:Int)):=by
 obtain⟨a1,a2,a3⟩:=h.apart;have hk:Chg s.mv.ownBlock.toList w w9:=((Chg.of_below (((Below.refl _ _).alloc (Nat.le_refl _) O).alloc (by simp) O2)).trans (Chg.refl _ _) (Later.refl _ _)).grown hgr (fun b e=> .inl (by simp[e]));have hb9:w9.heap[s.b]?=some (.cells #[s.sv,.int .i64 (s.rd:Int),s.mv] 68 (0,0)):=hk.keep h.blk (fun hm=>a2 (mem_own hm));have hgb:g≠s.b:=fun e=>by
  rcases hat with f|f
  ·exact a2 (by rw[f,e])
  ·have:=blkLt h.blk;omega
 refine⟨⟨⟨(blkSet (i:=2) hb9 _).trans rfl,ownsRow_other h.rL (fun q hq=>?_),?_⟩,rfl,?_,fun b hb=>?_⟩,blkFree hb9 2,blkLt hb9,blkCell hb9 2,blkCell hb9 1⟩
 ·obtain⟨cur,hc⟩:=ownsRow_blk h.rL hq;rw[Below.heap_setCell w9 ⟨s.b,2,none⟩ _ q (fun e=>a1 ((show q=s.b from e)▸hq))];exact hk.block q (blkLt hc) (fun hm=>a3 q hq (mem_own hm))
 ·have e:(s.made++[x]).length=n+1:=by rw[List.length_append,hn];rfl
  show(w9.setCell _ _).ownsRow 0 9 1 _ (s.made++[x]).length ((s.made++[x]).map Value.string);rw[e,List.map_append];exact ownsRow_other hown (fun q hq=>by
   have e1:g=q:=by cases hq;rfl
   subst e1;exact Below.heap_setCell w9 ⟨s.b,2,none⟩ _ g hgb)
 ·exact⟨hk.os,hk.tape,hk.output,by rw[World.size_setCell];exact hk.size,fun b hb hm=>by
   simp only[SvG.foot,List.mem_cons,List.mem_append,not_or]at hm;rw[Below.heap_setCell w9 ⟨s.b,2,none⟩ _ b hm.1];exact hk.block b hb hm.2.2⟩
 ·unfold SvG.foot at hb;rcases List.mem_cons.1 hb with e|e
  ·exact .inl (by rw[e];simp[SvG.foot])
  ·rcases List.mem_append.1 e with e|e
   ·exact .inl (by simp only[SvG.foot,List.mem_cons,List.mem_append];exact .inr (.inl e))
   ·have e1:g=b:=by have:=mem_own e;cases this;rfl
    subst e1;rcases hat with f|f
    ·exact .inl (by simp[SvG.foot,f])
    ·exact .inr (by omega)
theorem SvK.reads (h:SvK w s)(n:Nat):SvTo w (w.setCell ⟨s.b,1,none⟩ (.int .i64 (n:Int))) s {s with rd:=n}:=by
 obtain⟨a1,a2,a3⟩:=h.apart;refine⟨⟨(blkSet (i:=1) h.blk _).trans rfl,ownsRow_other h.rL (fun q hq=>Below.heap_setCell w ⟨s.b,1,none⟩ _ q (fun e=>a1 ((show q=s.b from e)▸hq))),ownsRow_other h.rM (fun q hq=>Below.heap_setCell w ⟨s.b,1,none⟩ _ q (fun e=>a2 ((show q=s.b from e)▸hq)))⟩,rfl,?_,fun b hb=> .inl hb⟩;exact⟨rfl,rfl,rfl,by rw[World.size_setCell];exact Nat.le_refl _,fun b hb hm=>Below.heap_setCell w ⟨s.b,1,none⟩ _ b (fun e=>hm (by rw[show b=s.b from e];simp[SvG.foot]))⟩
variable {ss ss':List SrvQ}{o i:Nat}{u:SrvQ}{piece:List UInt8}
def FrsOk (fs:List Fr):Prop:=∀f∈fs,FrOk f
theorem FrsOk.nil:FrsOk []:=fun f hf=>(by cases hf)
theorem FrsOk.app {a b:List Fr}(h:FrsOk a)(k:FrsOk b):FrsOk (a++b):=fun f hf=>by
 rcases List.mem_append.1 hf with e|e
 ·exact h f e
 ·exact k f e
def Grow (ss ss':List SrvQ):Prop:=ss'.length=ss.length∧∀(j:Nat) (s':SrvQ),ss'[j]?=some s'→∃s fs,ss[j]?=some s∧FrsOk fs∧s'.sent=s.sent++fs.flatMap Fr.by_
theorem Grow.refl (ss:List SrvQ):Grow ss ss:=⟨rfl,fun j s' h=>⟨s',[],h,FrsOk.nil,by simp⟩⟩
theorem Grow.trans {a b c:List SrvQ}(h:Grow a b)(k:Grow b c):Grow a c:=⟨k.1.trans h.1,fun j s' hs=>by
 obtain⟨s1,f1,h1,o1,e1⟩:=k.2 j s' hs
 obtain⟨s2,f2,h2,o2,e2⟩:=h.2 j s1 h1
 exact⟨s2,f2++f1,h2,o2.app o1,by rw[e1,e2,List.flatMap_append,List.append_assoc]⟩⟩
theorem Grow.set {u':SrvQ}(hu:ss[o]?=some u)(fs:List Fr)(hf:FrsOk fs)(he:u'.sent=u.sent++fs.flatMap Fr.by_):Grow ss (ss.set o u'):=⟨by simp,fun j s' hj=>by
 rcases get_set hj with⟨e1,e2⟩|⟨e1,e2⟩
 ·rw[e1,e2];exact⟨u,fs,hu,hf,he⟩
 ·exact⟨s',[],e2,FrsOk.nil,by simp⟩⟩
theorem sendK_grow (sv pt:Nat)(k:Int)(val:ByteArray)(ex:List (Nat×Nat))(st:List SrvQ×List PS)(key:ByteArray)(hk:k=1∨k=2∨k=3)(hv:val.size≤40)(hkey:keyB key=true):Grow st.1 (sendK sv pt k val ex st key).1:=by
 unfold sendK;split
 ·exact Grow.refl _
 ·rename_i s hs;split
  ·exact Grow.set hs [⟨k,key,val,(s.next+freeJ s.next (idsAt (ownerN sv pt key) (ex++opPs st.2))) % 65536⟩] (fun f hf=>by rw[List.mem_singleton.1 hf];exact⟨hk,hkey,hv,Nat.mod_lt _ (by omega)⟩) (by simp[Fr.by_])
  ·exact Grow.refl _
theorem sendsK_grow (sv pt:Nat)(k:Int)(val:ByteArray)(ex:List (Nat×Nat))(ss:List SrvQ)(ks:List ByteArray)(hk:k=1∨k=2∨k=3)(hv:val.size≤40)(hks:∀x∈ks,keyB x=true):Grow ss (sendsK sv pt k val ex ss ks).1:=
 sendsK_ind sv pt k val ex ss (fun ks st=>(∀x∈ks,keyB x=true)→Grow ss st.1) (fun _=>Grow.refl _) (fun ks key st hP hks=>(hP (fun x hx=>hks x (by simp[hx]))).trans (sendK_grow sv pt k val ex st key hk hv (hks key (by simp)))) ks hks
section
variable {d:Int}{cs:List Cmd}{rest:List UInt8}{Q:Int→PS→Prop}{P:List UInt8→Nat→Prop}
theorem serv_grow (hd:d=1∨d=2∨d=3)(hg:∀x∈cs,GoodC d x)(hl:cs.length≤65535)(hQ:∀k p,(p= .fl∨∃o id,p= .op o id)→Q k p)(hP:TellP d cs Q P)(sv pt win:Nat)(ex:List (Nat×Nat)):∀(f:Nat) (s:CliQ) (ss:List SrvQ) (a:Nat),CInv d cs rest Q P s a→Grow ss (servF sv pt win ex f s ss).2:=by
 intro f;induction f with
 |zero=>intro s ss a _;exact Grow.refl _
 |succ f ih=>
  intro s ss a h1;unfold servF;split
  ·cases hr:readR s.d s.st.held with
   |none=>exact Grow.refl _
   |some x=>
    simp only
    obtain⟨c,e1,e2,_⟩:=h1.read hd hg hl hr;have g:=askable_of (hg c (List.mem_of_getElem? e1)).cmd;obtain⟨⟨a',b1⟩,_⟩:=(h1.got hd hg hl hQ hr sv pt ex ss).tell hP;refine Grow.trans ?_ (ih _ _ a' b1);show Grow ss (sendsK sv pt x.c.kind x.c.val (ex++opQs s.qs) ss x.c.keys).1;rw[e2];exact sendsK_grow _ _ _ _ _ _ _ g.kind g.val40 g.keys
  ·exact Grow.refl _
end
section
variable {p:Ply}{sv pt win:Nat}{rest:Nat→List UInt8}{F:Nat→Prop}{st:List CliQ×List SrvQ}
theorem StI.runG (hp:PlyOk p)(h:StI p win rest F st)(i:Nat):Grow st.2 (runJ sv pt win i st).2:=by
 unfold runJ;cases hs:st.1[i]?with
 |none=>exact Grow.refl _
 |some s=>
  simp only
  obtain⟨⟨a,h1⟩,_⟩:=h i s hs;obtain⟨⟨a',t1⟩,_⟩:=h1.tell (hp.hP i);exact serv_grow (hp.hd i) (hp.hg i) (hp.hl i) (hp.hQ i) (hp.hP i) sv pt win _ _ _ _ a' t1
theorem StI.runsG (hp:PlyOk p)(h:StI p win rest F st):∀n,Grow st.2 (runsJ sv pt win n st).2:=by
 intro n;induction n with
 |zero=>exact Grow.refl _
 |succ n ih=>rw[runsJ_succ];exact ih.trans (StI.runG hp (StI.runs hp h n) n)
theorem runsJ_in (sv pt win:Nat)(st:List CliQ×List SrvQ):∀n,SameIn st.2 (runsJ sv pt win n st).2:=by
 intro n;induction n with
 |zero=>exact SameIn.refl _
 |succ n ih=>rw[runsJ_succ];exact ih.trans (runJ_in _ _ _ _ _)
def OthH (o:Nat)(ss:List SrvQ):Prop:=∀(j:Nat) (s:SrvQ),j≠o→ss[j]?=some s→s.held.length≤46
def HeldI (ss:List SrvQ):Prop:=∀(j:Nat) (s:SrvQ),ss[j]?=some s→s.held.length≤46
theorem OthH.same (h:OthH o ss)(k:SameIn ss ss'):OthH o ss':=fun j s hj hs=>by
 obtain⟨s0,h0,e,_⟩:=k.2 j s hs
 rw[e];exact h j s0 hj h0
theorem HeldI.same (h:HeldI ss)(k:SameIn ss ss'):HeldI ss':=fun j s hs=>by
 obtain⟨s0,h0,e,_⟩:=k.2 j s hs
 rw[e];exact h j s0 h0
theorem OthH.set (h:OthH o ss)(u:SrvQ):OthH o (ss.set o u):=fun j s hj hs=>by
 rcases get_set hs with⟨e1,_⟩|⟨_,e2⟩
 ·exact absurd e1 hj
 ·exact h j s hj e2
theorem hear_stop {cs:List CliQ}(h:hearO cs u o= .stop true):u.held.length≤46:=by
 unfold hearO at h;split at h
 ·rename_i ok hf;cases h;unfold fromR at hf;split at hf
  ·omega
  ·split at hf
   ·simp at hf
   ·split at hf
    ·omega
    ·simp at hf
 ·split at h
  ·cases h
  ·split at h<;>cases h
theorem lis_held:∀(f:Nat) (st:List CliQ×List SrvQ) (o:Nat),heldOf st.2 o<f→OthH o st.2→OthH o (lisF sv pt win o f st).1.2∧((lisF sv pt win o f st).2=true→HeldI (lisF sv pt win o f st).1.2):=by
 intro f;induction f with
 |zero=>intro st o h;omega
 |succ f ih=>
  intro st o h ho;unfold lisF;split
  ·rename_i hn;refine⟨ho,fun _ j s hs=>?_⟩;by_cases hj:j=o
   ·rw[hj]at hs;simp only at hs;rw[hn]at hs;cases hs
   ·exact ho j s hj hs
  ·rename_i u hu;split
   ·rename_i ok hh;refine⟨ho,fun e j s hs=>?_⟩;simp only at e;subst e;by_cases hj:j=o
    ·rw[hj]at hs;simp only at hs;rw[hu]at hs;cases hs;exact hear_stop hh
    ·exact ho j s hj hs
   ·rename_i i k m r hh;obtain⟨s',a1,_,_,a4⟩:=got_held (sv:=sv) (pt:=pt) (win:=win) hu hh;rw[heldOf_some hu]at h;exact ih _ o (by rw[heldOf_some a1];omega) ((ho.set _).same (runJ_in _ _ _ _ _))
theorem fellS_held (h:OthH o ss):HeldI (fellS o ss):=by
 unfold fellS;split
 ·rename_i hn;intro j s hs;by_cases hj:j=o
  ·rw[hj,hn]at hs;cases hs
  ·exact h j s hj hs
 ·intro j s hs;rcases get_set hs with⟨_,e2⟩|⟨e1,e2⟩
  ·rw[e2];exact Nat.zero_le _
  ·exact h j s e1 e2
theorem HeldI.oth (h:HeldI ss)(o:Nat):OthH o ss:=fun j s _ hs=>h j s hs
theorem fallJ_held (h:OthH o st.2):HeldI (fallJ sv pt win o st).2:=by
 unfold fallJ;exact(fellS_held h).same (runsJ_in _ _ _ _ _)
theorem answeredJ_held (h:HeldI st.2)(o:Nat)(piece:List UInt8):HeldI (answeredJ sv pt win o piece st).2:=by
 unfold answeredJ;split
 ·exact h
 ·rename_i u hu;obtain⟨a1,a2⟩:=lis_held (sv:=sv) (pt:=pt) (win:=win) _ (st.1,st.2.set o {u with held:=u.held++piece}) o (Nat.lt_succ_self _) ((h.oth o).set _);unfold listenJ;split
  ·rename_i e;exact a2 e
  ·exact fallJ_held a1
theorem fellS_grow (o:Nat)(ss:List SrvQ):Grow ss (fellS o ss):=by
 unfold fellS;split
 ·exact Grow.refl _
 ·rename_i s hs;exact Grow.set hs [] FrsOk.nil (by simp)
theorem uppedJ_grow (o:Nat)(ss:List SrvQ):Grow ss (uppedJ o ss):=by
 unfold uppedJ;split
 ·exact Grow.refl _
 ·rename_i s hs;exact Grow.set hs [] FrsOk.nil (by simp)
theorem uppedJ_held (h:HeldI ss):HeldI (uppedJ o ss):=by
 unfold uppedJ;split
 ·exact h
 ·rename_i s hs;intro j s' hj;rcases get_set hj with⟨e1,e2⟩|⟨e1,e2⟩
  ·rw[e2];exact h o s hs
  ·exact h j s' e2
theorem StI.fallG (hp:PlyOk p)(h:StI p win rest F st)(o:Nat):Grow st.2 (fallJ sv pt win o st).2:=by
 unfold fallJ;exact(fellS_grow o st.2).trans (StI.runsG hp (h.fellI hp o) _)
theorem StI.saidG (hp:PlyOk p)(h:StI p win rest (fun _=>True) st){r:List UInt8}(hr:rest i=piece++r):Grow st.2 (saidJ sv pt win i piece st).2:=by
 unfold saidJ;split
 ·exact Grow.refl _
 ·rename_i s hs;exact StI.runG hp (h.tookI hs hr) i
theorem StI.lisG (hp:PlyOk p)(hq:∀(cs:List CliQ) (u:SrvQ) (i k m:Nat) (r:Reply),hearO cs u o= .got i k m r→p.Q i (kindAt cs i k) (.an r.st r.val)):∀(f:Nat) (st:List CliQ×List SrvQ),StI p win rest (fun _=>True) st→Grow st.2 (lisF sv pt win o f st).1.2:=by
 intro f;induction f with
 |zero=>intro st h;exact Grow.refl _
 |succ f ih=>
  intro st h;unfold lisF;split
  ·exact Grow.refl _
  ·rename_i u hu;split
   ·exact Grow.refl _
   ·rename_i i k m r hh;refine Grow.trans ?_ (ih _ (h.an hp hu hh (hq _ _ _ _ _ _ hh)));exact(Grow.set hu [] FrsOk.nil (by simp)).trans (StI.runG hp (h.anI hp hu hh (hq _ _ _ _ _ _ hh)) i)
theorem StI.answeredG (hp:PlyOk p)(hq:∀(cs:List CliQ) (u:SrvQ) (i k m:Nat) (r:Reply),hearO cs u o= .got i k m r→p.Q i (kindAt cs i k) (.an r.st r.val))(h:StI p win rest (fun _=>True) st)(piece:List UInt8):Grow st.2 (answeredJ sv pt win o piece st).2:=by
 unfold answeredJ;split
 ·exact Grow.refl _
 ·rename_i u hu;have h0:=h.heldI hu (u.held++piece);refine Grow.trans (Grow.set (u':={u with held:=u.held++piece}) hu [] FrsOk.nil (by simp)) ?_;have h1:=StI.lis (sv:=sv) (pt:=pt) hp hq (heldOf (st.2.set o {u with held:=u.held++piece}) o+1) _ h0;have h2:=StI.lisG (sv:=sv) (pt:=pt) hp hq (heldOf (st.2.set o {u with held:=u.held++piece}) o+1) _ h0;unfold listenJ;split
  ·exact h2
  ·exact h2.trans (h1.fallG hp o)
theorem fallJ_up {b:Nat}(h:upAt (fallJ sv pt win o st).2 b):upAt st.2 b∧b≠o:=by
 unfold fallJ at h;have h1:=(upAt_same (runsJ_in sv pt win (st.1.map (failC o),fellS o st.2) st.1.length)).2 h;obtain⟨u,h2,h3⟩:=h1;have h4:(fellS o st.2)[b]?=some u:=h2;unfold fellS at h4;split at h4
 ·rename_i hn;exact⟨⟨u,h4,h3⟩,fun e=>by rw[e,hn]at h4;cases h4⟩
 ·rcases get_set h4 with⟨_,e2⟩|⟨e1,e2⟩
  ·rw[e2]at h3;cases h3
  ·exact⟨⟨u,e2,h3⟩,e1⟩
theorem lisF_len (sv pt win o:Nat):∀(f:Nat) (st:List CliQ×List SrvQ),(lisF sv pt win o f st).1.1.length=st.1.length:=by
 intro f;induction f with
 |zero=>intro st;rfl
 |succ f ih=>
  intro st;unfold lisF;split
  ·rfl
  ·split
   ·rfl
   ·rw[ih,runJ_len];show(anJ _ _ _ _ _).length=_;unfold anJ;split<;>simp
theorem fallJ_len (sv pt win o:Nat)(st:List CliQ×List SrvQ):(fallJ sv pt win o st).1.length=st.1.length:=by
 unfold fallJ;rw[runsJ_len];simp
theorem saidJ_len (sv pt win i:Nat)(piece:List UInt8)(st:List CliQ×List SrvQ):(saidJ sv pt win i piece st).1.length=st.1.length:=by
 unfold saidJ;split
 ·rfl
 ·rw[runJ_len];simp
theorem answeredJ_len (sv pt win o:Nat)(piece:List UInt8)(st:List CliQ×List SrvQ):(answeredJ sv pt win o piece st).1.length=st.1.length:=by
 unfold answeredJ;split
 ·rfl
 ·unfold listenJ;split
  ·unfold lisJ;rw[lisF_len]
  ·rw[fallJ_len];unfold lisJ;rw[lisF_len]
theorem saidJ_held (h:HeldI st.2):HeldI (saidJ sv pt win i piece st).2:=by
 unfold saidJ;split
 ·exact h
 ·rename_i s hs;exact h.same (runJ_in sv pt win i (st.1.set i (tookQ s piece),st.2))
end
variable {f:Fr}
theorem worksP_snoc (fs:List Fr)(f:Fr)(st:List (ByteArray×ByteArray)×List ByteArray):worksP (fs++[f]) st=workP (worksP fs st) f:=by
 unfold worksP;rw[List.foldl_append];rfl
theorem strOfNums_size (l:List Int):(strOfNums l).size=l.length:=by
 unfold strOfNums;simp[ByteArray.size]
theorem ansF_size (t:Bool)(v:ByteArray)(id:Nat):(ansF t v id).size=7+v.size:=by
 unfold ansF;rw[ByteArray.size_append,strOfNums_size];rfl
def WkOk (st:List (ByteArray×ByteArray)×List ByteArray):Prop:=Small st.1∧∀m∈st.2,m.size≤47
theorem workP_ok (hf:FrOk f){st:List (ByteArray×ByteArray)×List ByteArray}(h:WkOk st):WkOk (workP st f)∧(workP st f).1.length≤st.1.length+1∧(workP st f).2.length=st.2.length+1:=by
 obtain⟨a1,a2,_,a4⟩:=doesP_small (kind:=f.k) (k:=f.key) h.1 hf.val;refine⟨⟨a1,fun m hm=>?_⟩,a4,by simp[workP]⟩;rcases List.mem_append.1 (show m∈st.2++[_]from hm)with e|e
 ·exact h.2 m e
 ·rw[List.mem_singleton.1 e,ansF_size];omega
theorem worksP_ok:∀(fs:List Fr) (st:List (ByteArray×ByteArray)×List ByteArray),FrsOk fs→WkOk st→WkOk (worksP fs st)∧(worksP fs st).1.length≤st.1.length+fs.length∧(worksP fs st).2.length=st.2.length+fs.length:=by
 intro fs;induction fs with
 |nil=>intro st _ h;exact⟨h,Nat.le_refl _,rfl⟩
 |cons f fs ih=>
  intro st hf h;obtain⟨a1,a2,a3⟩:=workP_ok (hf f (by simp)) h;obtain⟨b1,b2,b3⟩:=ih (workP st f) (fun g hg=>hf g (by simp[hg])) a1;have e:worksP (f::fs) st=worksP fs (workP st f):=rfl;rw[e];refine⟨b1,?_,?_⟩
  ·rw[List.length_cons];omega
  ·rw[b3,a3,List.length_cons];omega
theorem Fr.by_len (h:FrOk f):7≤f.by_.length∧f.by_.length≤60:=by
 have hk:=keyB_size' h.key;have hv:=h.val;rw[f.by_eq h];have lk:=len_size' f.key;have lv:=len_size' f.val;simp;omega
theorem frs_len {fs:List Fr}(h:FrsOk fs):7*fs.length≤(fs.flatMap Fr.by_).length:=by
 induction fs with
 |nil=>simp
 |cons f fs ih=>
  have h1:=(Fr.by_len (h f (by simp))).1;have h2:=ih (fun g hg=>h g (by simp[hg]));rw[List.flatMap_cons,List.length_append,List.length_cons];omega
def SrvIn (u:SrvQ)(s:SvG):Prop:=∃fs j,FrsOk fs∧u.sent=fs.flatMap Fr.by_∧j≤fs.length∧s.rd=((fs.take j).flatMap Fr.by_).length∧WkOk (s.L,s.made)∧s.L.length≤j∧s.made.length≤j
theorem SrvIn.grow {u u':SrvQ}{s:SvG}(h:SrvIn u s){gs:List Fr}(hg:FrsOk gs)(he:u'.sent=u.sent++gs.flatMap Fr.by_):SrvIn u' s:=by
 obtain⟨fs,j,h1,h2,h3,h4,h5⟩:=h;refine⟨fs++gs,j,h1.app hg,by rw[he,h2,List.flatMap_append],by rw[List.length_append];omega,?_,h5⟩;rw[List.take_append_of_le_length h3];exact h4
set_option maxHeartbeats 8000000
set_option maxRecDepth 20000
variable {s:SvG}{T:ByteArray}
theorem wrap_u8 (n:Int):IntKind.u8.wrap n=n % 256:=by
 unfold IntKind.wrap;simp[IntKind.bits,IntKind.signed]
def rdOf (W:World)(b:Nat):Nat:=match W.cell? ⟨b,1,none⟩with
 |some (.int _ n)=>n.toNat
 |_=>0
theorem SvK.rdOf {W:World}(h:SvK W s):rdOf W s.b=s.rd:=by
 unfold Go.Proofs.YtlonjggfnleolaaGreatDoor.rdOf;rw[blkCell h.blk 1];simp
structure WkAt (w W:World)(s s1:SvG)(pre:List UInt8)(gs:List Fr)(T:ByteArray)(fs rs:List Fr):Prop where
 eq:gs=fs++rs
 tos:SvTo w W s s1
 rd:s1.rd=(pre++fs.flatMap Fr.by_).length
 st:(s1.L,s1.made)=worksP fs (s.L,s.made)
theorem WkAt.more {w wr wf:World}{sv1 mv1 sv3 mv3:Value}{L1 dL:List (ByteArray×ByteArray)}{rd1:Nat}{made1:List ByteArray}{pre:List UInt8}{gs fs rs:List Fr}{f:Fr}{d1:Bool}{d2:ByteArray}(h:WkAt w wr s ⟨s.b,sv1,L1,rd1,mv1,made1⟩ pre gs T fs (f::rs))(hd:doesP f.k f.key f.val L1=((d1,d2),dL))(hs:SvTo w wf s ⟨s.b,sv3,dL,rd1,mv3,made1++[ansF d1 d2 f.id]⟩)(hT:T.size=(pre++gs.flatMap Fr.by_).length):(∃s1 fs rs,WkAt w (wf.setCell ⟨s.b,1,none⟩ (.int .i64 ((rd1:Int)+(f.by_.length:Int)))) s s1 pre gs T fs rs∧s1.rd≤T.size)∧rdOf (wf.setCell ⟨s.b,1,none⟩ (.int .i64 ((rd1:Int)+(f.by_.length:Int)))) s.b=rd1+f.by_.length:=by
 have e:(rd1:Int)+(f.by_.length:Int)=((rd1+f.by_.length:Nat):Int):=by omega
 rw[e];have k:=hs.at_.reads (rd1+f.by_.length);have hst:=h.st;have hrd:=h.rd;simp only at hst hrd;refine⟨⟨_,fs++[f],rs,⟨by rw[h.eq];simp,hs.trans k,?_,?_⟩,?_⟩,k.at_.rdOf⟩
 ·show rd1+f.by_.length=_;rw[hrd];simp;omega
 ·show(dL,made1++[ansF d1 d2 f.id])=_;rw[worksP_snoc,←hst];unfold workP;rw[hd]
 ·show rd1+f.by_.length≤_;rw[hT,h.eq,hrd];simp;omega
theorem ansF_t (v:ByteArray)(id:Nat):strOfNums [2,IntKind.u8.wrap 0,0,(v.size:Int),0,(id:Int) % 256,(id:Int) / 256]++v=ansF true v id:=by
 unfold ansF;rw[wrap_u8];simp
theorem ansF_f (v:ByteArray)(id:Nat):strOfNums [2,IntKind.u8.wrap 1,0,(v.size:Int),0,(id:Int) % 256,(id:Int) / 256]++v=ansF false v id:=by
 unfold ansF;rw[wrap_u8];simp
theorem ext_to {a b:List UInt8}{n:Nat}(h:T.data.toList=a++b)(hn:n=a.length):T.extract n T.size=mkB b:=by
 subst hn;have e:(T.extract a.length T.size).data.toList=b:=by
  rw[ByteArray.data_extract,Array.toList_extract,h];simp[List.extract];have hl:T.size=a.length+b.length:=by
   have:=congrArg List.length h;rw[Array.length_toList,List.length_append]at this;exact this
  rw[hl,Nat.add_sub_cancel_left];simp
 rw[←mkB_toList (T.extract a.length T.size),e]
attribute [local go_sem ↓] Go.wp_at_zero Go.wp_at_succ
theorem works_any (s:SvG)(pre:List UInt8)(gs:List Fr)(T:ByteArray)(w:World)(hs:SvK w s)(hf:FrsOk gs)(hT:T.data.toList=pre++gs.flatMap Fr.by_)(hr:s.rd=pre.length)(hw:WkOk (s.L,s.made))(hL:s.L.length+gs.length≤1000000000)(hM:s.made.length+gs.length≤1000000000)(hsz:T.size≤100000000000):Calls Tryz.prog 31 #[.pointer (some ⟨s.b,0,none⟩),.string T] w fun e w'=>e= .returned (.bool true)∧∃s',SvTo w w' s s'∧s'.rd=T.size∧(s'.L,s'.made)=worksP gs (s.L,s.made):=by
 have hTs:T.size=(pre++gs.flatMap Fr.by_).length:=by rw[←hT,Array.length_toList];rfl
 have HX:=hide' (And.intro hT (And.intro hf (And.intro hw (And.intro hL (And.intro hM hTs)))));have HIn:Hid (∃s1 fs rs,WkAt w w s s1 pre gs T fs rs∧s1.rd≤T.size):=⟨s,[],gs,⟨rfl,SvTo.refl hs,by simp[hr],rfl⟩,by rw[hTs,hr,List.length_append];omega⟩
 clear hs hf hT hr hw hL hM hTs;go_enter Tryz.func31,Tryz.ntmps31;go_wp2_with fail
 go_loopw [5,6,7,8,9,10] (fun _ _ _ _ _ _ wr=>Hid (∃s1 fs rs,WkAt w wr s s1 pre gs T fs rs∧s1.rd≤T.size)) (fun _ _ _ _ _ _ wr=>T.size-rdOf wr s.b)
 case atStart=>exact HIn
 case round=>
  obtain⟨⟨b1,sv1,L1,rd1,mv1,made1⟩,fs,rs,hk,hle⟩:=hrel;have hb1:b1=s.b:=hk.tos.b;subst hb1;have HK:=hide' hk;clear hk HIn;have hle:rd1≤T.size:=hle;have c1:=blkCell HK.out.tos.at_.blk 1;simp at c1;have hbl:=blkLt HK.out.tos.at_.blk;simp only at hbl;have HRd:Hid (rdOf wr s.b=rd1):=HK.out.tos.at_.rdOf;cases rs with
  |nil=>
   have hend:rd1=T.size:=by
    have h1:=HK.out.rd;have h2:=HK.out.eq;rw[List.append_nil]at h2;rw[←h2,←HX.out.2.2.2.2.2]at h1;exact h1
   have hlt':¬(rd1:Int)<(T.size:Int):=by omega
   have HE:Hid (∃s',SvTo w wr s s'∧s'.rd=T.size∧(s'.L,s'.made)=worksP gs (s.L,s.made)):=⟨_,HK.out.tos,hend,by rw[HK.out.eq,List.append_nil];exact HK.out.st⟩
   clear HX HK HRd;go_wp2_with fail
   go_ret;exact⟨rfl,HE.out⟩
  |cons f rs=>
   have hFk:FrOk f:=HX.out.2.1 f (by rw[HK.out.eq];simp);have HF:=hide' hFk;have hsp:T.data.toList=(pre++fs.flatMap Fr.by_)++(f.by_++rs.flatMap Fr.by_):=by
    rw[HX.out.1,HK.out.eq];simp
   have hex:=ext_to hsp HK.out.rd;simp only at hex;have hlen:rd1+(f.by_.length+(rs.flatMap Fr.by_).length)=T.size:=by
    have h1:=congrArg List.length hsp;rw[List.length_append,←HK.out.rd,List.length_append,Array.length_toList]at h1;exact h1.symm
   have hf7:=(Fr.by_len hFk).1;have hlt':(rd1:Int)<(T.size:Int):=by omega
   have hCall:=kframe_any hFk (rs.flatMap Fr.by_) wr (by rw[List.length_append];omega);rw[←hex]at hCall;have HC:=hide' hCall;clear hCall hex hsp hFk;go_wp2_with fail
   go_at_call 38;refine HC.out.mono ?_;rintro e w1 ⟨⟨K,rfl,hK,hKw⟩,hB1⟩;have HB1:=hide' hB1;have HKc:=hide' (And.intro hK hKw);clear hB1 hK hKw HC c1 hbl;go_wp2_with fail
   have HSv:Hid (SvTo w (w1.alloc (.cells #[.int .i64 f.k,.slice (some ⟨K,0,none⟩) 1 1,.string f.val,.string ⟨#[]⟩,.bool false,.int .i64 (f.id:Int)] 36)).drew s ⟨s.b,sv1,L1,rd1,mv1,made1⟩):=HK.out.tos.below ((HB1.out.alloc HB1.out.size _).drew);have hCold:wr.heap.size≤w1.heap.size:=HB1.out.size;have HCn:Hid (∀b∈SvG.foot ⟨s.b,sv1,L1,rd1,mv1,made1⟩,b<wr.heap.size):=HK.out.tos.at_.old;have HC6:=hide' (blkNew w1 (.cells #[.int .i64 f.k,.slice (some ⟨K,0,none⟩) 1 1,.string f.val,.string ⟨#[]⟩,.bool false,.int .i64 (f.id:Int)] 36 (0,0)));have hK0:(w1.alloc (.cells #[.int .i64 f.k,.slice (some ⟨K,0,none⟩) 1 1,.string f.val,.string ⟨#[]⟩,.bool false,.int .i64 (f.id:Int)] 36)).cell? ⟨K,0,none⟩=some (.string f.key):=by
    have h1:=blkCell (((Below.refl _ w1).alloc (Nat.le_refl _) (.cells #[.int .i64 f.k,.slice (some ⟨K,0,none⟩) 1 1,.string f.val,.string ⟨#[]⟩,.bool false,.int .i64 (f.id:Int)] 36)).block K (blkLt HKc.out.1) |>.trans HKc.out.1) 0;simpa using h1
   have hKl:K<w1.heap.size+1:=by have:=blkLt HKc.out.1;omega
   have hbl:s.b<w1.heap.size+1:=by have:=HCn.out s.b (by simp[SvG.foot]);omega
   have hl2:(w1.alloc (.cells #[.int .i64 f.k,.slice (some ⟨K,0,none⟩) 1 1,.string f.val,.string ⟨#[]⟩,.bool false,.int .i64 (f.id:Int)] 36)).heap.size=w1.heap.size+1:=by simp
   generalize hw2:w1.alloc (.cells #[.int .i64 f.k,.slice (some ⟨K,0,none⟩) 1 1,.string f.val,.string ⟨#[]⟩,.bool false,.int .i64 (f.id:Int)] 36)=w2 at*;clear hw2;have HSt:=hide' HK.out.st;have hL1:L1.length≤1000000000:=by
    have h1:=(worksP_ok fs (s.L,s.made) (fun g hg=>HX.out.2.1 g (by rw[HK.out.eq];simp[hg])) HX.out.2.2.1).2.1;rw[←HK.out.st]at h1;have h2:=HX.out.2.2.2.1;have h3:fs.length≤gs.length:=by rw[HK.out.eq];simp
    simp only at h1;omega
   have HDo:=hide' (does_any s.b 68 #[sv1,.int .i64 (rd1:Int),mv1] L1 sv1 f.key f.val w2.drew f.k (by decide) HSv.out.at_.blk rfl HSv.out.at_.rL hL1);have HDid:Hid (∀w3 v',ShTo w2.drew w3 s.b 68 #[sv1,.int .i64 (rd1:Int),mv1] sv1 v' (doesP f.k f.key f.val L1).2→SvTo w w3 s ⟨s.b,v',(doesP f.k f.key f.val L1).2,rd1,mv1,made1⟩∧(∀j u,w2.cell? ⟨w1.heap.size,j,none⟩=some u→w3.cell? ⟨w1.heap.size,j,none⟩=some u)∧(w2.cell? ⟨K,0,none⟩=some (.string f.key)→w3.cell? ⟨K,0,none⟩=some (.string f.key))∧w3.heap[w1.heap.size]?=w2.heap[w1.heap.size]?):=fun w3 v' h3=>by
    have key:∀b,wr.heap.size≤b→b<w2.heap.size→w3.heap[b]?=w2.heap[b]?:=fun b hb hb2=>by
     refine h3.chg.block _ hb2 (fun hm=>?_);rcases List.mem_cons.1 hm with e|e
     ·have:=HCn.out s.b (by simp[SvG.foot]);omega
     ·have:=HCn.out _ (by simp only[SvG.foot,List.mem_cons,List.mem_append];exact .inr (.inl e));omega
    have ck:∀b j,wr.heap.size≤b→b<w2.heap.size→w3.cell? ⟨b,j,none⟩=w2.cell? ⟨b,j,none⟩:=fun b j h1 h2=>by
     unfold World.cell?;rw[key b h1 h2]
    exact⟨HSv.out.trans (HSv.out.at_.does h3),fun j u hu=>(ck _ j hCold (by rw[hl2];omega)).trans hu,fun hu=>(ck K 0 HKc.out.2 (by rw[hl2];exact hKl)).trans hu,key _ hCold (by rw[hl2];omega)⟩
   unfold DoesTo at HDo;generalize hdp:doesP f.k f.key f.val L1=dp at*;obtain⟨⟨d1,d2⟩,dL⟩:=dp;simp only at HDo HDid;have HDp:=hide' hdp;clear hdp;have HLn:=hide' (And.intro hL1 (And.intro hle hlen));clear hL1;generalize hC:w1.heap.size=C at*;have c0:=blkCell HC6.out 0;have c1:=blkCell HC6.out 1;have c2:=blkCell HC6.out 2;have c5:=blkCell HC6.out 5;simp at c0 c1 c2 c5;go_region_held3 (fun W'=>W'.cell? ⟨C,0,none⟩=some (.int .i64 f.k)∧W'.cell? ⟨C,1,none⟩=some (.slice (some ⟨K,0,none⟩) 1 1)∧W'.cell? ⟨C,2,none⟩=some (.string f.val)∧W'.cell? ⟨K,0,none⟩=some (.string f.key)) (go_keep) (first
    |(go_at_call 61;refine HDo.out.mono ?_;rintro e w3 ⟨rfl,sv3,h3⟩;have h3a:=HDid.out w3 sv3 h3;have HD3:=hide' h3a.1;have x0:=h3a.2.1 0 _ c0;have x1:=h3a.2.1 1 _ c1;have x2:=h3a.2.1 2 _ c2;have x5:=h3a.2.1 5 _ c5;have xk:=h3a.2.2.1 hK0;have HCb:=hide' (h3a.2.2.2.trans HC6.out);clear h3 h3a c0 c1 c2 c5 hK0)
    |fail)
   rename_i hHeld;have hCl:=blkLt HCb.out;have hCs:C≠s.b:=fun e=>by
    have h1:=HD3.out.at_.blk;simp only at h1;rw[←e,HCb.out]at h1;cases h1
   have hCs2:s.b≠C:=fun e=>hCs e.symm
   clear hHeld x0 x1 x2 xk HDo HDid hKl hbl hCold HKc HCn HB1 HSv HC6 hC hl2;have hmr:=HD3.out.at_.rM;obtain⟨ma,mc,hmv,hmc,_⟩:=row_sl hmr;simp only at hmv;generalize hmn:made1.length=n at*;subst hmv;have HRF:Hid (∀O O2,((w3.alloc O).alloc O2).drew.ownsRow 0 9 1 (.slice ma n mc) n (made1.map .string)):=fun O O2=>World.ownsRow.alloc (World.ownsRow.alloc hmr O) O2
   have HCm:Hid (some C≠(Value.slice ma n mc).ownBlock):=fun e=>by
    obtain⟨cur,hc⟩:=ownsRow_blk hmr e.symm;rw[HCb.out]at hc;cases hc
   clear hmr;have HD4:Hid (SvTo w w3.drew s ⟨s.b,sv3,dL,rd1,.slice ma n mc,made1⟩):=HD3.out.below (Below.refl _ _).drew;have hbl:=blkLt HD3.out.at_.blk;simp only at hbl;have b2:=blkCell HD3.out.at_.blk 2;simp at b2;have hid:=HF.out.id;have hok:=(doesP_small (kind:=f.k) (k:=f.key) (L:=L1) (x:=f.val) (by
    have h1:=(worksP_ok fs (s.L,s.made) (fun g hg=>HX.out.2.1 g (by rw[HK.out.eq];simp[hg])) HX.out.2.2.1).1.1;rw[←HK.out.st]at h1;exact h1) HF.out.val).2.1
   rw[HDp.out]at hok;simp only at hok;have hnn:n+1≤1000000000:=by
    have h1:=(worksP_ok fs (s.L,s.made) (fun g hg=>HX.out.2.1 g (by rw[HK.out.eq];simp[hg])) HX.out.2.2.1).2.2;rw[←HK.out.st]at h1;have h2:=HX.out.2.2.2.2.1;have h3:fs.length+1≤gs.length:=by rw[HK.out.eq];simp
    simp only at h1;omega
   obtain⟨i9,h91,h92,h93,h94⟩:=info9s;have HI9:=hide' (And.intro h91 (And.intro h92 (And.intro h93 h94)));clear h91 h92 h93 h94;have u1:IntKind.u8.wrap (d2.size:Int)=(d2.size:Int):=by rw[wrap_u8];omega
   have u2:IntKind.u8.wrap (f.id:Int)=((f.id % 256:Nat):Int):=by rw[wrap_u8];omega
   have u3:IntKind.u8.wrap ((f.id:Int) / 256)=((f.id / 256:Nat):Int):=by rw[wrap_u8];omega
   have hsz7:∀l,(strOfNums l).size=l.length:=strOfNums_size;have hcat:¬9223372036854775807<7+d2.size:=by omega
   have hcv:∀b0 b1 b2 b3 b4 b5 b6:Int,(convert 80 9 (.slice (some ⟨w3.heap.size,0,none⟩) 7 7)).run Tryz.prog (w3.alloc (.cells #[.int .u8 b0,.int .u8 b1,.int .u8 b2,.int .u8 b3,.int .u8 b4,.int .u8 b5,.int .u8 b6] 5)).drew= .ok (.string (strOfNums [b0,b1,b2,b3,b4,b5,b6])) (w3.alloc (.cells #[.int .u8 b0,.int .u8 b1,.int .u8 b2,.int .u8 b3,.int .u8 b4,.int .u8 b5,.int .u8 b6] 5)).drew:=fun b0 b1 b2 b3 b4 b5 b6=>conv7 w3.drew b0 b1 b2 b3 b4 b5 b6
   have HPu:Hid (∀(O O2:Obj) (g cap:Nat) (w9:World) (x:ByteArray),w9.ownsRow 0 9 1 (.slice (some ⟨g,0,none⟩) (n+1) cap) (n+1) (made1.map .string++[.string x])→((w3.alloc O).alloc O2).drew.grownBy w9 (Value.slice ma n mc).ownBlock→((Value.slice ma n mc).ownBlock=some g∨g=w3.heap.size+2)→SvTo w (w9.setCell ⟨s.b,2,none⟩ (.slice (some ⟨g,0,none⟩) (n+1) cap)) s ⟨s.b,sv3,dL,rd1,.slice (some ⟨g,0,none⟩) (n+1) cap,made1++[x]⟩∧w9.frozen? ⟨s.b,2,none⟩=false∧s.b<w9.heap.size∧w9.cell? ⟨s.b,2,none⟩=some (Value.slice ma n mc)∧w9.cell? ⟨C,5,none⟩=some (.int .i64 (f.id:Int))):=fun O O2 g cap w9 x h1 h2 h3=>by
    have hb9:=(h2.block C (by simp;omega) HCm.out).trans ((((Below.refl _ w3).alloc (Nat.le_refl _) O).alloc (by simp) O2).drew.block C hCl);obtain⟨p1,p2,p3,p4,p5⟩:=SvK.push (w:=w3.drew) (w9:=w9) (O:=O) (O2:=O2) (g:=g) (cap:=cap) (x:=x) HD4.out.at_ hmn h1 h2 h3;exact⟨HD4.out.trans p1,p2,p3,p4,(World.cell?_of_block hb9).trans x5⟩
   have HAll:=hide' (And.intro hlen (And.intro hf7 (And.intro hlt' (And.intro hle (And.intro hmn hmc)))));have hrl:IntKind.i64.wrap ((rd1:Int)+(f.by_.length:Int))=(rd1:Int)+(f.by_.length:Int):=wrap_small _ (by omega) (by omega);clear hlen hf7 hlt' hle hmn HF HLn HSt HD3 HD4 hok hid HCb HCm;cases d1 with
   |true=>
    go_wp2_with fail
    go_region_law (first
     |((refine step_append_lies _ (by rfl) _ _ _ (by rfl) 0 9 i9 (.string ⟨#[]⟩) 1 16 Tryz.underlying34 HI9.out.1 HI9.out.2.1 HI9.out.2.2.1 HI9.out.2.2.2 rfl (by omega) (.slice ma n mc) n (made1.map .string) (by rfl) (HRF.out _ _) ⟨w3.heap.size+1,0,none⟩ 1 1 _ (by rfl) (by rfl) (World.news_of_block (hs_new (by simp))) (fun u hu=>by simp at hu;subst hu;rfl) (by omega) (by unfold maxLen;omega) (by omega) (Nat.zero_le _) (w3.heap.size+2) (by simp) ?_;intro g9 cap9 w9 hown hgr hat hlt;have hp:=HPu.out _ _ g9 cap9 w9 _ hown hgr hat;have HP9:=hide' hp.1;have cf9:=hp.2.1;have hBl9:=hp.2.2.1;have cc9:=hp.2.2.2.1;have xx9:=hp.2.2.2.2;clear hp hown hgr hat))
     |fail)
    all_goals(rw[ansF_t]at HP9;have hz:=HK.out.more HDp.out HP9.out HX.out.2.2.2.2.2;have HZ:=hide' hz;clear hz HPu HRF HI9 hcv hsz7 cf9 hBl9 cc9 xx9 x5 b2 hbl;generalize w9.setCell ⟨s.b,2,none⟩ (.slice (some ⟨g9,0,none⟩) (n+1) cap9)=wf at*;have r1:=blkCell HP9.out.at_.blk 1;have rl:=blkLt HP9.out.at_.blk;have rf:=blkFree HP9.out.at_.blk 1;simp at r1;simp only at rl rf;clear HP9;go_wp2_with fail;go_roundw;(case rel=>exact HZ.out.1);(case measure=>rw[HZ.out.2,HRd.out];have:=HAll.out;omega))
   |false=>
    go_wp2_with fail
    go_region_law (first
     |((refine step_append_lies _ (by rfl) _ _ _ (by rfl) 0 9 i9 (.string ⟨#[]⟩) 1 16 Tryz.underlying34 HI9.out.1 HI9.out.2.1 HI9.out.2.2.1 HI9.out.2.2.2 rfl (by omega) (.slice ma n mc) n (made1.map .string) (by rfl) (HRF.out _ _) ⟨w3.heap.size+1,0,none⟩ 1 1 _ (by rfl) (by rfl) (World.news_of_block (hs_new (by simp))) (fun u hu=>by simp at hu;subst hu;rfl) (by omega) (by unfold maxLen;omega) (by omega) (Nat.zero_le _) (w3.heap.size+2) (by simp) ?_;intro g9 cap9 w9 hown hgr hat hlt;have hp:=HPu.out _ _ g9 cap9 w9 _ hown hgr hat;have HP9:=hide' hp.1;have cf9:=hp.2.1;have hBl9:=hp.2.2.1;have cc9:=hp.2.2.2.1;have xx9:=hp.2.2.2.2;clear hp hown hgr hat))
     |fail)
    all_goals(rw[ansF_f]at HP9;have hz:=HK.out.more HDp.out HP9.out HX.out.2.2.2.2.2;have HZ:=hide' hz;clear hz HPu HRF HI9 hcv hsz7 cf9 hBl9 cc9 xx9 x5 b2 hbl;generalize w9.setCell ⟨s.b,2,none⟩ (.slice (some ⟨g9,0,none⟩) (n+1) cap9)=wf at*;have r1:=blkCell HP9.out.at_.blk 1;have rl:=blkLt HP9.out.at_.blk;have rf:=blkFree HP9.out.at_.blk 1;simp at r1;simp only at rl rf;clear HP9;go_wp2_with fail;go_roundw;(case rel=>exact HZ.out.1);(case measure=>rw[HZ.out.2,HRd.out];have:=HAll.out;omega))
end Go.Proofs.YtlonjggfnleolaaGreatDoor
