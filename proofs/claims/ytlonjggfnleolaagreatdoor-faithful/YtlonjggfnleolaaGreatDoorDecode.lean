import Derived.Test.YtlonjggfnleolaaGreatDoorPure
namespace Go.Proofs.YtlonjggfnleolaaGreatDoor
set_option linter.unusedVariables false
variable {s val:ByteArray}{k:Int}{ss:List ByteArray}
theorem ofNat_lt (n:Nat)(h:n<256):(UInt8.ofNat n).toNat=n:=by simp;omega
structure Askable (k:Int)(ss:List ByteArray)(val:ByteArray):Prop where
 kind:k=1∨k=2∨k=3
 len1:1≤ss.length
 len4:ss.length≤4
 one:k≠1→ss.length=1
 keys:∀s∈ss,keyB s=true
 val40:val.size≤40
 val0:k≠2→val=noB
 cmd:cmdB k ss val=true
theorem emptyB' (h:s.toList.isEmpty=true):s=noB:=by
 have h2:s.toList=[]:=by simpa using h
 have h3:s.data.toList=[]:=by rw[←h2];exact(ByteArray.toList_eq s).symm
 have h4:s.data=#[]:=by simpa using h3
 cases s;simp only at h4;rw[h4];rfl
theorem askable_of (h:cmdB k ss val=true):Askable k ss val:=by
 have hc:=h;have kk:∀m:Int,keysB ss m=true→1≤ss.length∧(ss.length:Int)≤m∧∀s∈ss,keyB s=true:=by
  intro m hm;simp only[keysB,withinB,Bool.and_eq_true,decide_eq_true_eq,List.all_eq_true]at hm;exact⟨by omega,hm.1.2,hm.2⟩
 unfold cmdB at h;split at h
 ·rename_i h1;simp only[Bool.and_eq_true]at h;obtain⟨a,b,c⟩:=kk _ h.1;have e:=emptyB' h.2;subst e;exact⟨.inl h1,a,by omega,fun n=>absurd h1 n,c,by decide,fun _=>rfl,hc⟩
 ·split at h
  ·rename_i h1 h2;simp only[Bool.and_eq_true,decide_eq_true_eq]at h;obtain⟨a,b,c⟩:=kk _ h.1;exact⟨.inr (.inl h2),a,by omega,fun _=>by omega,c,by omega,fun n=>absurd h2 n,hc⟩
  ·split at h
   ·rename_i h1 h2 h3;simp only[Bool.and_eq_true]at h;obtain⟨a,b,c⟩:=kk _ h.1;have e:=emptyB' h.2;subst e;exact⟨.inr (.inr h3),a,by omega,fun _=>by omega,c,by decide,fun _=>rfl,hc⟩
   ·cases h
theorem keyB_size' (h:keyB s=true):1≤s.size∧s.size≤8:=by
 simp only[keyB,withinB,Bool.and_eq_true,decide_eq_true_eq]at h;omega
theorem toList_app (a b:ByteArray):(a++b).data.toList=a.data.toList++b.data.toList:=by simp
theorem len_size' (s:ByteArray):s.data.toList.length=s.size:=by simp
theorem bytesOf_mid (a m b:List UInt8)(i k:Nat)(hi:a.length=i)(hk:m.length=k):bytesOf (a++m++b) i k=mkB m:=by
 subst hi;subst hk;unfold bytesOf mkB;congr 2;rw[List.append_assoc,List.drop_left,List.take_left]
theorem mkB_toList (s:ByteArray):mkB s.data.toList=s:=by simp[mkB]
theorem frame_round (k:Int)(key val:ByteArray)(id:Int)(x:List UInt8)(h:Askable k [key] val)(hi:0≤id)(hi2:id≤65535):frR ((headB 1 k key.size val.size id++key++val).data.toList++x)=some ⟨⟨k,[key],val,noB,false,id⟩,(headB 1 k key.size val.size id++key++val).size,false⟩:=by
 have hk:=keyB_size' (h.keys key (by simp));have hv:=h.val40;have hkd:=h.kind;have hv0:k≠2→val.size=0:=fun hn=>by rw[h.val0 hn];rfl
 have hkey:=h.keys key (by simp);have hlk:=len_size' key;have hlv:=len_size' val;have e0:(headB 1 k key.size val.size id).data.toList=[1,UInt8.ofNat k.toNat,UInt8.ofNat key.size,UInt8.ofNat (val.size % 256),UInt8.ofNat (val.size / 256),UInt8.ofNat (id % 256).toNat,UInt8.ofNat (id / 256).toNat]:=by
  have z1:((val.size:Int) % 256).toNat=val.size % 256:=by omega
  have z2:((val.size:Int) / 256).toNat=val.size / 256:=by omega
  simp only[headB,strOfNums,List.map_cons,List.map_nil,z1,z2]
  rfl
 have hsz:(headB 1 k key.size val.size id++key++val).size=7+key.size+val.size:=by
  rw[ByteArray.size_append,ByteArray.size_append,←len_size' (headB _ _ _ _ _),e0];rfl
 rw[hsz,toList_app,toList_app,e0];generalize hL: [1,UInt8.ofNat k.toNat,UInt8.ofNat key.size,UInt8.ofNat (val.size % 256),UInt8.ofNat (val.size / 256),UInt8.ofNat (id % 256).toNat,UInt8.ofNat (id / 256).toNat]++key.data.toList++val.data.toList++x=L;have hlen:L.length=7+key.size+val.size+x.length:=by rw[←hL];simp;omega
 have b0:byAt L 0=1:=by rw[←hL];rfl
 have b1:(byAt L 1:Int)=k:=by rw[←hL];show((UInt8.ofNat k.toNat).toNat:Int)=k;rw[ofNat_lt _ (by omega)];omega
 have b2:byAt L 2=key.size:=by rw[←hL];exact ofNat_lt _ (by omega)
 have b3:byAt L 3=val.size % 256:=by rw[←hL];exact ofNat_lt _ (by omega)
 have b4:byAt L 4=val.size / 256:=by rw[←hL];exact ofNat_lt _ (by omega)
 have b5:(byAt L 5:Int)=id % 256:=by rw[←hL];show((UInt8.ofNat (id % 256).toNat).toNat:Int)=_;rw[ofNat_lt _ (by omega)];omega
 have b6:(byAt L 6:Int)=id / 256:=by rw[←hL];show((UInt8.ofNat (id / 256).toNat).toNat:Int)=_;rw[ofNat_lt _ (by omega)];omega
 have n3:numAt L 3=val.size:=by unfold numAt;rw[b3,b4];omega
 have n5:(numAt L 5:Int)=id:=by have:numAt L 5=byAt L 5+256*byAt L 6:=rfl;omega
 have g1:bytesOf L 7 key.size=key:=by
  rw[←hL,List.append_assoc (_++_) _ x];exact(bytesOf_mid _ key.data.toList (val.data.toList++x) 7 key.size rfl hlk).trans (mkB_toList key)
 have g2:bytesOf L (7+key.size) val.size=val:=by
  rw[←hL,bytesOf_mid _ _ _ _ _ (by simp;omega) hlv,mkB_toList]
 have hh:frHead L=true:=by
  unfold frHead;rw[b0,b2,n3];simp only[Bool.and_eq_true,Bool.or_eq_true,decide_eq_true_eq]
  refine⟨⟨⟨⟨⟨trivial,?_⟩,?_⟩,?_⟩,?_⟩,?_⟩
  ·omega
  ·omega
  ·omega
  ·omega
  ·by_cases h2:k=2
   ·exact .inr ⟨by omega,hv⟩
   ·exact .inl (hv0 h2)
 unfold frR;rw[if_neg (by omega),hh,if_neg (by decide),b2,n3,if_neg (by omega),g1,hkey,if_neg (by decide),g2,b1,n5]
theorem getD_mid (a:List UInt8)(b:UInt8)(r:List UInt8):(a++b::r).getD a.length 0=b:=by
 simp[List.getD]
theorem byAt_mid (a:List UInt8)(b:UInt8)(r:List UInt8):byAt (a++b::r) a.length=b.toNat:=by
 unfold byAt;rw[getD_mid]
theorem expect_mid (a r:List UInt8)(c:UInt8):expectW (a++c::r) c ⟨a.length,false,false⟩=⟨(a++[c]).length,false,false⟩:=by
 unfold expectW;rw[if_neg,if_pos (getD_mid a c r)]
 ·simp
 ·simp[WS.look]
theorem countF_digit (a r:List UInt8)(least most f n dg:Nat)(first:Bool)(hd:dg≤9)(hm:n*10+dg≤most)(h1:first=true→least≤dg)(h2:first=false→n≠0):countF (a++UInt8.ofNat (48+dg)::r) least most (f+1) a.length n first=countF (a++UInt8.ofNat (48+dg)::r) least most f (a++[UInt8.ofNat (48+dg)]).length (n*10+dg) false:=by
 have e:(UInt8.ofNat (48+dg)).toNat=48+dg:=ofNat_lt _ (by omega);conv=>lhs;unfold countF
 rw[getD_mid,byAt_mid,e];have hb:digB (UInt8.ofNat (48+dg))=true:=by
  unfold digB;rw[e];simp only[Bool.and_eq_true,decide_eq_true_eq];omega
 rw[if_neg,if_neg]
 ·rw[show 48+dg-48=dg by omega,List.length_append];rfl
 ·rw[hb];rintro (h|h|h|h)
  ·cases h
  ·omega
  ·have:=h1 h.1;omega
  ·exact h2 h.1 h.2
 ·rintro ⟨_,h⟩;have:(UInt8.ofNat (48+dg)).toNat=10:=by rw[h];rfl
  omega
theorem countF_end (a r:List UInt8)(least most f n:Nat):countF (a++10::r) least most (f+1) a.length n false=(n,⟨(a++[10]).length,false,false⟩):=by
 conv=>lhs;unfold countF
 rw[getD_mid,if_pos ⟨rfl,rfl⟩];simp
theorem count_mid (a r:List UInt8)(least most n:Nat)(hn:n<100)(hm:n≤most)(hl:least≤1)(hl2:least≤n):countW (a++(dec100 n).data.toList++10::r) least most ⟨a.length,false,false⟩=(n,⟨(a++(dec100 n).data.toList++[10]).length,false,false⟩):=by
 unfold countW;have hlook:¬(((⟨a.length,false,false⟩:WS).look (a++(dec100 n).data.toList++10::r).length).short || false)=true:=by
  simp[WS.look]
 rw[if_neg hlook];unfold dec100;split
 ·rename_i h10;simp only
  have e1:(a++[UInt8.ofNat (48+n)]++10::r).length-a.length=r.length+1+1:=by simp
  have e2:a++[UInt8.ofNat (48+n)]++10::r=a++UInt8.ofNat (48+n)::(10::r):=by simp
  show countF _ _ _ ((a++[UInt8.ofNat (48+n)]++10::r).length-a.length) _ _ _=_;rw[e1];show countF (a++[UInt8.ofNat (48+n)]++10::r) _ _ _ _ _ _=_;rw[e2,countF_digit a (10::r) least most (r.length+1) 0 n true (by omega) (by omega) (fun _=>by omega) (fun h=>by cases h)];rw[show a++UInt8.ofNat (48+n)::(10::r)=(a++[UInt8.ofNat (48+n)])++10::r by simp,countF_end,Nat.zero_mul,Nat.zero_add]
 ·rename_i h10;simp only
  have e1:(a++[UInt8.ofNat (48+n / 10),UInt8.ofNat (48+n % 10)]++10::r).length-a.length=r.length+1+1+1:=by simp
  show countF _ _ _ ((a++[UInt8.ofNat (48+n / 10),UInt8.ofNat (48+n % 10)]++10::r).length-a.length) _ _ _=_;rw[e1];show countF (a++[UInt8.ofNat (48+n / 10),UInt8.ofNat (48+n % 10)]++10::r) _ _ _ _ _ _=_;rw[show a++[UInt8.ofNat (48+n / 10),UInt8.ofNat (48+n % 10)]++10::r=a++UInt8.ofNat (48+n / 10)::(UInt8.ofNat (48+n % 10)::10::r)by simp,
   countF_digit a _ least most (r.length+1+1) 0 (n / 10) true (by omega) (by omega) (fun _=>by omega) (fun h=>by cases h),
   show a++UInt8.ofNat (48+n / 10)::(UInt8.ofNat (48+n % 10)::10::r)=(a++[UInt8.ofNat (48+n / 10)])++UInt8.ofNat (48+n % 10)::(10::r)by simp,
   countF_digit _ _ least most (r.length+1) _ (n % 10) false (by omega) (by omega) (fun h=>by cases h) (fun _=>by omega),
   show(a++[UInt8.ofNat (48+n / 10)])++UInt8.ofNat (48+n % 10)::(10::r)=(a++[UInt8.ofNat (48+n / 10)]++[UInt8.ofNat (48+n % 10)])++10::r by simp,countF_end]
  congr 1
  ·omega
  ·simp
theorem text_mid (a m r:List UInt8):textW (a++m++r) m.length ⟨a.length,false,false⟩=(mkB m,⟨(a++m).length,false,false⟩):=by
 unfold textW;rw[if_neg (by simp),if_neg (by simp),bytesOf_mid a m r _ _ rfl rfl];simp
theorem one_mid (a r:List UInt8)(t:ByteArray)(ht:t.size≤40):oneW (a++textL t++r) ⟨a.length,false,false⟩=(t,⟨(a++textL t).length,false,false⟩):=by
 have e:textL t=[36]++(dec100 t.size).data.toList++[10]++t.data.toList++[10]:=by
  unfold textL sizedB;simp only[toList_app]
  rw[←List.append_assoc,←List.append_assoc,←List.append_assoc]
 have hl:=len_size' t;unfold oneW;rw[e];have s1:a++([36]++(dec100 t.size).data.toList++[10]++t.data.toList++[10])++r=a++36::((dec100 t.size).data.toList++[10]++t.data.toList++[10]++r):=by simp
 have s2:a++([36]++(dec100 t.size).data.toList++[10]++t.data.toList++[10])++r=(a++[36])++(dec100 t.size).data.toList++10::(t.data.toList++[10]++r):=by simp
 have s3:a++([36]++(dec100 t.size).data.toList++[10]++t.data.toList++[10])++r=((a++[36])++(dec100 t.size).data.toList++[10])++t.data.toList++([10]++r):=by simp
 have s4:a++([36]++(dec100 t.size).data.toList++[10]++t.data.toList++[10])++r=(((a++[36])++(dec100 t.size).data.toList++[10])++t.data.toList)++10::r:=by simp
 generalize hL:a++([36]++(dec100 t.size).data.toList++[10]++t.data.toList++[10])++r=L at*;have q1:expectW L 36 ⟨a.length,false,false⟩=⟨(a++[36]).length,false,false⟩:=by rw[s1];exact expect_mid _ _ _
 have q2:countW L 0 40 ⟨(a++[36]).length,false,false⟩=(t.size,⟨((a++[36])++(dec100 t.size).data.toList++[10]).length,false,false⟩):=by rw[s2];exact count_mid _ _ 0 40 _ (by omega) ht (by omega) (by omega)
 have q3:textW L t.size ⟨((a++[36])++(dec100 t.size).data.toList++[10]).length,false,false⟩=(t,⟨(((a++[36])++(dec100 t.size).data.toList++[10])++t.data.toList).length,false,false⟩):=by
  have:=text_mid ((a++[36])++(dec100 t.size).data.toList++[10]) t.data.toList ([10]++r);rw[hl,mkB_toList,←s3]at this;exact this
 have q4:expectW L 10 ⟨(((a++[36])++(dec100 t.size).data.toList++[10])++t.data.toList).length,false,false⟩=⟨((((a++[36])++(dec100 t.size).data.toList++[10])++t.data.toList)++[10]).length,false,false⟩:=by rw[s4];exact expect_mid _ _ _
 simp only[q1,q2,q3,q4]
 congr 2;simp
theorem texts_mid:∀(ts:List ByteArray) (a r:List UInt8) (acc:List ByteArray),(∀t∈ts,t.size≤40)→textsW (a++ts.flatMap textL++r) ts.length ⟨a.length,false,false⟩ acc=(acc++ts,⟨(a++ts.flatMap textL).length,false,false⟩):=by
 intro ts;induction ts with
 |nil=>intro a r acc _;simp[textsW]
 |cons t ts ih=>
  intro a r acc h;have s1:a++(t::ts).flatMap textL++r=a++textL t++(ts.flatMap textL++r):=by simp
  have s2:a++(t::ts).flatMap textL++r=(a++textL t)++ts.flatMap textL++r:=by simp
  have o1:oneW (a++(t::ts).flatMap textL++r) ⟨a.length,false,false⟩=(t,⟨(a++textL t).length,false,false⟩):=by rw[s1];exact one_mid _ _ _ (h t (by simp))
  rw[List.length_cons];unfold textsW;rw[o1];simp only
  rw[s2,ih (a++textL t) r (acc++[t]) (fun u hu=>h u (by simp[hu]))];simp
theorem kindB_name (h:k=1∨k=2∨k=3):kindB (nameB k)=k:=by
 rcases h with rfl|rfl|rfl<;>decide
theorem nameB_size' (k:Int):(nameB k).size=3:=by unfold nameB;split;rfl;split<;>rfl
theorem list_round (k:Int)(ss:List ByteArray)(val:ByteArray)(x:List UInt8)(h:Askable k ss val):lsR (listsAskL (nameB k::ss++if k=2 then [val]else [])++x)=some ⟨⟨k,ss,val,noB,false,0⟩,(listsAskL (nameB k::ss++if k=2 then [val]else [])).length,false⟩:=by
 have hlen:(nameB k::ss++if k=2 then [val]else []).length≤5∧2≤(nameB k::ss++if k=2 then [val]else []).length:=by
  have:=h.len4;have:=h.len1;by_cases h2:k=2
  ·have:=h.one (by omega);simp[h2];omega
  ·simp[h2];omega
 have hsz:∀t∈(nameB k::ss++if k=2 then [val]else []),t.size≤40:=by
  intro t ht;rw[List.mem_append,List.mem_cons]at ht;rcases ht with(rfl|ht)|ht
  ·rw[nameB_size'];omega
  ·have:=keyB_size' (h.keys t ht);omega
  ·by_cases h2:k=2
   ·rw[if_pos h2,List.mem_singleton]at ht;rw[ht];exact h.val40
   ·rw[if_neg h2]at ht;cases ht
 have hR:∀u,textsR (nameB k::ss++if k=2 then [val]else []) u=⟨⟨k,ss,val,noB,false,0⟩,u,false⟩:=by
  intro u;unfold textsR;have d0:(nameB k::ss++if k=2 then [val]else []).getD 0 noB=nameB k:=rfl;have d1:(nameB k::ss++if k=2 then [val]else []).drop 1=ss++if k=2 then [val]else []:=rfl
  simp only
  rw[d0,d1,kindB_name h.kind];by_cases h2:k=2
  ·have h1:=h.one (by omega);match ss,h1,h.cmd with
   | [s],_,hc=>
    subst h2;simp only[if_true,List.singleton_append,List.length_cons,List.length_nil,List.take_succ_cons,List.take_zero,and_self,List.getD_cons_succ,List.getD_cons_zero]
    rw[if_pos hc]
  ·have hv:=h.val0 h2;subst hv;simp only[h2,if_false,List.append_nil,false_and]
   rw[if_pos h.cmd]
 generalize (nameB k::ss++if k=2 then [val]else [])=ts at*;unfold listsAskL;have e:(ByteArray.mk #[42]++dec100 ts.length++ByteArray.mk #[10]).data.toList=[42]++(dec100 ts.length).data.toList++[10]:=by
  simp only[toList_app]
 rw[e];have s1: [42]++(dec100 ts.length).data.toList++[10]++ts.flatMap textL++x=([]:List UInt8)++42::((dec100 ts.length).data.toList++[10]++ts.flatMap textL++x):=by simp
 have s2: [42]++(dec100 ts.length).data.toList++[10]++ts.flatMap textL++x=[42]++(dec100 ts.length).data.toList++10::(ts.flatMap textL++x):=by simp
 generalize hL: [42]++(dec100 ts.length).data.toList++[10]++ts.flatMap textL++x=L at*;have q1:expectW L 42 ⟨0,false,false⟩=⟨1,false,false⟩:=by rw[s1];exact expect_mid [] _ _
 have q2:countW L 1 5 ⟨1,false,false⟩=(ts.length,⟨([42]++(dec100 ts.length).data.toList++[10]).length,false,false⟩):=by rw[s2];exact count_mid [42] _ 1 5 _ (by omega) (by omega) (by omega) (by omega)
 have q3:textsW L ts.length ⟨([42]++(dec100 ts.length).data.toList++[10]).length,false,false⟩ []=(ts,⟨([42]++(dec100 ts.length).data.toList++[10]++ts.flatMap textL).length,false,false⟩):=by
  rw[←hL];have:=texts_mid ts ([42]++(dec100 ts.length).data.toList++[10]) x [] hsz;rw[List.nil_append]at this;exact this
 unfold lsR;simp only[q1,q2,q3]
 rw[hR];rfl
def plainL (l:List UInt8):Prop:=∀b∈l,b≠32∧b≠10
theorem plain_key (h:keyB s=true):plainL s.data.toList:=by
 simp only[keyB,allLd,Bool.and_eq_true,List.all_eq_true]at h;intro b hb;have h1:=h.2 b hb;simp only[ldB,letB,digB,Bool.or_eq_true,Bool.and_eq_true,decide_eq_true_eq]at h1;refine⟨?_,?_⟩
 ·rintro rfl;have:(32:UInt8).toNat=32:=rfl;omega
 ·rintro rfl;have:(10:UInt8).toNat=10:=rfl;omega
theorem plain_name (k:Int):plainL (nameB k).data.toList:=by
 unfold nameB plainL;split
 ·decide
 ·split<;>decide
theorem plain_dec (n:Nat)(h:n<100):plainL (dec100 n).data.toList:=by
 have k:∀m:Nat,m<100→(dec100 m).data.toList.all (fun b=>b != 32&&b != 10)=true:=by decide+kernel
 intro b hb;have:=List.all_eq_true.1 (k n h) b hb;simp only[Bool.and_eq_true,bne_iff_ne]at this;exact this
theorem split_plain:∀(l:List UInt8),plainL l→splitL l=[l]:=by
 intro l;induction l with
 |nil=>intro _;rfl
 |cons b l ih=>
  intro h;have hb:=(h b (by simp)).1;rw[splitL,if_neg hb,ih (fun c hc=>h c (by simp[hc]))]
theorem split_blank:∀(l m:List UInt8),plainL l→splitL (l++32::m)=l::splitL m:=by
 intro l;induction l with
 |nil=>intro m _;simp[splitL]
 |cons b l ih=>
  intro m h;have hb:=(h b (by simp)).1;rw[List.cons_append,splitL,if_neg hb,ih m (fun c hc=>h c (by simp[hc]))]
theorem join_cons (a b:List UInt8)(l:List (List UInt8))(c:List UInt8):Lib.join (a::b::l) c=a++c++Lib.join (b::l) c:=by
 simp[Lib.join,List.intercalate]
theorem join_one (a c:List UInt8):Lib.join [a] c=a:=by simp[Lib.join,List.intercalate]
theorem split_join:∀(l:List (List UInt8)),l≠[]→(∀w∈l,plainL w)→splitL (Lib.join l [32])=l:=by
 intro l;induction l with
 |nil=>intro h;exact absurd rfl h
 |cons a l ih=>
  intro _ h;cases l with
  |nil=>rw[join_one];exact split_plain a (h a (by simp))
  |cons b l=>
   rw[join_cons,List.append_assoc,List.singleton_append,split_blank a _ (h a (by simp)),ih (by simp) (fun w hw=>h w (by simp[hw]))]
theorem join_no10:∀(l:List (List UInt8)),(∀w∈l,plainL w)→∀b∈Lib.join l [32],b≠10:=by
 intro l;induction l with
 |nil=>intro _ b hb;simp[Lib.join,List.intercalate]at hb
 |cons a l ih=>
  intro h b hb;cases l with
  |nil=>rw[join_one]at hb;exact(h a (by simp) b hb).2
  |cons c l=>
   rw[join_cons,List.mem_append,List.mem_append,List.mem_singleton]at hb;rcases hb with(hb|hb)|hb
   ·exact(h a (by simp) b hb).2
   ·rw[hb];decide
   ·exact ih (fun w hw=>h w (by simp[hw])) b hb
theorem ib_hit:∀(l r:List UInt8),(∀b∈l,b≠10)→Go.Lib.indexByte (l++10::r) 10=l.length:=by
 intro l;induction l with
 |nil=>intro r _;rfl
 |cons b l ih=>
  intro r h;have hb:(b==10)=false:=by have:=h b (by simp);simpa using this
  rw[List.cons_append,ib_cons,ih r (fun c hc=>h c (by simp[hc]))];have:(((l.length:Int))== -1)=false:=by rw[beq_eq_false_iff_ne];omega
  simp only[hb,this,Bool.false_eq_true,if_false,List.length_cons]
  omega
theorem ln_at (L r:List UInt8)(h:∀b∈L,b≠10)(hl:L.length≤60):lnR (L++10::r)=lineR (L++10::r) L.length:=by
 have e:(L++10::r).take 61=L++10::r.take (60-L.length):=by
  rw[List.take_append,List.take_of_length_le (by omega)];have:61-L.length=(60-L.length)+1:=by omega
  rw[this,List.take_succ_cons]
 unfold lnR;rw[e,ib_hit L _ h,if_pos (by omega)];congr 1
theorem count_dec:∀n:Nat,n≤40→countS (dec100 n)=some n:=by decide+kernel
def askWords (k:Int)(ss:List ByteArray)(val:ByteArray):List ByteArray:=nameB k::ss++if k=2 then [dec100 val.size]else []
theorem askWords_plain (h:Askable k ss val):∀w∈(askWords k ss val).map (·.data.toList),plainL w:=by
 intro w hw;obtain⟨s,hs,rfl⟩:=List.mem_map.1 hw;unfold askWords at hs;rw[List.mem_append,List.mem_cons]at hs;rcases hs with(rfl|hs)|hs
 ·exact plain_name k
 ·exact plain_key (h.keys s hs)
 ·by_cases h2:k=2
  ·rw[if_pos h2,List.mem_singleton]at hs;rw[hs];exact plain_dec _ (by have:=h.val40;omega)
  ·rw[if_neg h2]at hs;cases hs
theorem join_len:∀(l:List (List UInt8)) (m:Nat),(∀w∈l,w.length≤m)→(Lib.join l [32]).length≤l.length*(m+1):=by
 intro l;induction l with
 |nil=>intro m _;simp[Lib.join,List.intercalate]
 |cons a l ih=>
  intro m h;have ha:=h a (by simp);cases l with
  |nil=>rw[join_one];simp;omega
  |cons b l=>
   have:=ih m (fun w hw=>h w (by simp[hw]));rw[join_cons,List.length_append,List.length_append];show _≤((b::l).length+1)*(m+1);rw[Nat.succ_mul];simp only[List.length_cons,List.length_nil]at this⊢;omega
theorem dec100_len (n:Nat):(dec100 n).data.toList.length≤2:=by unfold dec100;split<;>simp
theorem askWords_len (h:Askable k ss val):(Lib.join ((askWords k ss val).map (·.data.toList)) [32]).length≤45:=by
 have h1:=join_len ((askWords k ss val).map (·.data.toList)) 8 (by
  intro w hw;obtain⟨s,hs,rfl⟩:=List.mem_map.1 hw;unfold askWords at hs;rw[List.mem_append,List.mem_cons]at hs;rw[len_size'];rcases hs with(rfl|hs)|hs
  ·rw[nameB_size'];omega
  ·exact(keyB_size' (h.keys s hs)).2
  ·by_cases h2:k=2
   ·rw[if_pos h2,List.mem_singleton]at hs;rw[hs,←len_size'];have:=dec100_len val.size;omega
   ·rw[if_neg h2]at hs;cases hs)
 have h2:(askWords k ss val).length≤5:=by
  have:=h.len4;unfold askWords;by_cases h2:k=2
  ·have:=h.one (by omega);simp[h2];omega
  ·simp[h2];omega
 rw[List.length_map]at h1;omega
theorem joinB_list (ss:List ByteArray):(joinB ss).data.toList=Lib.join (ss.map (·.data.toList)) [32]:=by simp[joinB]
theorem ask_line (h:Askable k ss val):(linesAskB k ss val).data.toList=Lib.join ((askWords k ss val).map (·.data.toList)) [32]++10::(if k=2 then val.data.toList++[10]else []):=by
 have h1:=h.len1;unfold linesAskB askWords;obtain⟨s,ss',rfl⟩:∃s ss',ss=s::ss':=by cases ss with|nil=>simp at h1|cons s l=>exact⟨s,l,rfl⟩
 by_cases h2:k=2
 ·have hone:=h.one (by omega);have:ss'=[]:=by simpa using hone
  subst this;rw[if_pos h2,if_pos h2,if_pos h2];unfold sizedB;simp only[toList_app,joinB_list,List.map_cons,List.map_nil,List.cons_append,List.nil_append,join_cons,join_one]
  simp
 ·rw[if_neg h2,if_neg h2,if_neg h2];simp only[toList_app,joinB_list,List.map_cons,List.append_nil,join_cons]
theorem line_round (k:Int)(ss:List ByteArray)(val:ByteArray)(x:List UInt8)(h:Askable k ss val):lnR ((linesAskB k ss val).data.toList++x)=some ⟨⟨k,ss,val,noB,false,0⟩,(linesAskB k ss val).data.toList.length,false⟩:=by
 have hp:=askWords_plain h;have hl:=askWords_len h;have hw:wordsOf (Lib.join ((askWords k ss val).map (·.data.toList)) [32])=askWords k ss val:=by
  unfold wordsOf;rw[split_join _ (by unfold askWords;simp) hp,List.map_map];conv=>rhs;rw[←List.map_id (askWords k ss val)]
  apply List.map_congr_left;intro s _;exact mkB_toList s
 have h10:=join_no10 _ hp;rw[ask_line h];generalize hJ:Lib.join ((askWords k ss val).map (·.data.toList)) [32]=J at*;rw[List.append_assoc,List.cons_append,ln_at J _ h10 (by omega)];unfold lineR;rw[List.take_left,hw];have a0:(askWords k ss val).getD 0 noB=nameB k:=rfl;have hk:=kindB_name h.kind;by_cases h2:k=2
 ·have hone:=h.one (by omega);obtain⟨s,rfl⟩:∃s,ss=[s]:=by
   cases ss with
   |nil=>simp at hone
   |cons s l=>cases l with|nil=>exact⟨s,rfl⟩|cons=>simp at hone
  have hkey:=h.keys s (by simp);have a1:(askWords k [s] val).getD 1 noB=s:=rfl;have a2:askWords k [s] val=[nameB k,s,dec100 val.size]:=by unfold askWords;rw[if_pos h2];rfl
  have hs:setSizeR (askWords k [s] val)=some val.size:=by
   unfold setSizeR;rw[a2,if_pos ⟨rfl,by show kindB (nameB k)=2;omega,hkey⟩];exact count_dec _ h.val40
  have hv:=h.val40;have hlv:=len_size' val;rw[hs,a1,if_pos h2];simp only
  unfold setR;rw[if_neg (by omega)];have s1:J++10::(val.data.toList++[10]++x)=(J++[10]++val.data.toList)++10::x:=by simp
  have s2:J++10::(val.data.toList++[10]++x)=(J++[10])++val.data.toList++(10::x):=by simp
  have g1:(J++10::(val.data.toList++[10]++x)).getD (J.length+1+val.size) 0=10:=by
   rw[s1];have:=getD_mid (J++[10]++val.data.toList) 10 x;have e:(J++[10]++val.data.toList).length=J.length+1+val.size:=by simp;omega
   rw[e]at this;exact this
  have g2:bytesOf (J++10::(val.data.toList++[10]++x)) (J.length+1) val.size=val:=by
   rw[s2,bytesOf_mid _ _ _ _ _ (by simp) hlv,mkB_toList]
  rw[if_neg (by simp;omega),g1,if_neg (by simp),g2];congr 2
  ·rw[h2]
  ·simp;omega
 ·have hs:setSizeR (askWords k ss val)=none:=by
   unfold setSizeR;rw[if_neg];rintro ⟨_,h3,_⟩;rw[a0,hk]at h3;exact h2 h3
  have hv:=h.val0 h2;subst hv;have a1:(askWords k ss noB).drop 1=ss:=by unfold askWords;rw[if_neg h2];simp
  rw[hs];simp only
  rw[a0,a1,hk,if_neg,if_neg h2]
  ·simp
  ·rintro (h3|h3)
   ·exact h2 h3
   ·rw[h.cmd]at h3;cases h3
theorem ask_round (d k:Int)(ss:List ByteArray)(val:ByteArray)(id:Int)(x:List UInt8)(hd:d=1∨d=2∨d=3)(h:Askable k ss val)(h2:d=2→ss.length=1∧0≤id∧id≤65535):readR d ((askS d k ss val id).data.toList++x)=some ⟨⟨k,ss,val,noB,false,if d=2 then id else 0⟩,(askS d k ss val id).data.toList.length,false⟩:=by
 unfold readR askS;rcases hd with rfl|rfl|rfl
 ·rw[if_pos rfl,if_pos rfl,if_neg (by decide)];exact line_round k ss val x h
 ·obtain⟨h1,h3,h4⟩:=h2 rfl;obtain⟨s,rfl⟩:∃s,ss=[s]:=by
   cases ss with
   |nil=>simp at h1
   |cons s l=>cases l with|nil=>exact⟨s,rfl⟩|cons=>simp at h1
  rw[if_neg (by decide),if_pos rfl,if_neg (by decide),if_pos rfl,if_pos rfl];have:=frame_round k s val id x h h3 h4;rw[len_size'];exact this
 ·have e1:¬(3:Int)=1:=by decide
  have e2:¬(3:Int)=2:=by decide
  simp only[e1,e2,if_false]
  exact list_round k ss val x h
end Go.Proofs.YtlonjggfnleolaaGreatDoor
