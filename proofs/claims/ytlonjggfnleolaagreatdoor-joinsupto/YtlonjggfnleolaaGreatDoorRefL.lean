import Derived.Test.YtlonjggfnleolaaGreatDoorRefD
namespace Go.Proofs.YtlonjggfnleolaaGreatDoor
open Go.RowKit
set_option linter.unusedVariables false
set_option maxHeartbeats 4000000
set_option maxRecDepth 20000
theorem refline_set (s:ByteArray)(e n:Nat)(y z:ByteArray)(w:World)(hs:s.size≤1000000000000)(he:Go.Lib.indexByte s.data.toList 10=(e:Int))(hlt:e<s.size)(hws:wordsOf (s.data.toList.take e)=[⟨#[115,101,116]⟩,y,z])(hk:keyB y=true)(hc:countS z=some n)(hn:n≤999)(hlast:¬40<n→e+1+n<s.size→s.size=e+1+n+1):Calls Tryz.prog 171 #[.string s] w fun r w'=>RefOut w w' (setR s.data.toList (e+1) y n) r∧Below w.heap.size w w':=by
 have hll:=len_size' s;have HE:=hide' (fun W=>refend_any s W (by unfold maxLen;omega));rw[he]at HE;have hline:(s.extract 0 e).data.toList=s.data.toList.take e:=by rw[extract_mkB];simp[mkB]
 have hls:(s.extract 0 e).size≤1000000000000:=by rw[ByteArray.size_extract];omega
 have HSp:=hide' (fun W=>refsplit_any (s.extract 0 e) W hls);rw[hline,hws]at HSp;have hsize:∀x∈[⟨#[115,101,116]⟩,y,z],x.size≤maxLen:=by
  intro x hx;rw[←hws]at hx;exact Nat.le_trans (words_size _ x hx) (by rw[List.length_take];unfold maxLen;omega)
 have hy:=hsize y (by simp);have hz:=hsize z (by simp);have HKy:=hide' (fun W=>refkey_any y W hy);have HCz:=hide' (fun W=>refcount_any z W hz);rw[hk]at HKy;rw[hc]at HCz;unfold cntI at HCz;dsimp only at HCz;have hb0:bytesOf s.data.toList (e+1) n=s.extract (e+1) (e+1+n):=by rw[extract_mkB,Nat.add_sub_cancel_left];rfl
 have i1:(0:Int)≤(e:Int):=by omega
 have i2:(e:Int)≤(s.size:Int):=by omega
 have i3:¬(e:Int)<0:=by omega
 have i4:(0:Int)≤(n:Int):=by omega
 clear hline hws he hsize hk hc;unfold setR;rw[hll];by_cases h40:40<n
 ·rw[if_pos h40];have h40':(40:Int)<(n:Int):=by omega
  clear hlast hb0 hll;go_enter Tryz.func171,Tryz.ntmps171;go_wp2_with (first
   |(go_at_call 181;refine(HE.out _).mono ?_;rintro r w1 ⟨rfl,rfl⟩)
   |(go_at_call 183;refine(HSp.out _).mono ?_;rintro r w2 ⟨g,c,rfl,hown,hb2⟩;obtain⟨hT,hg⟩:=owns_texts rfl (by simp) hown;have hR2:w2.heap[w.heap.size]?=some zCmdO:=(hb2.block _ (by simp)).trans (blkNew w _);obtain⟨_,hRl,hBl⟩:=zres (by simpa using hb2);have HT:=hide' (And.intro hT (And.intro hR2 hBl));have hgl:=hT.lt;have hgw:w.heap.size<g:=(by simp at hg;omega);have c0:=texts_cell hT (i:=0) rfl;have c1:=texts_cell hT (i:=1) rfl;have c2:=texts_cell hT (i:=2) rfl;obtain⟨⟨r0,r1,r2,r3,r4,r5⟩,rf⟩:=ccells_of hR2;clear hown hb2 hT hR2 hBl hg;dsimp only[List.length_cons,List.length_nil,Nat.reduceAdd])
   |(go_at_call 137;refine(HKy.out _).mono ?_;rintro r w' ⟨rfl,hw⟩;subst hw)
   |(go_at_call 184;refine(HCz.out _).mono ?_;rintro r w' ⟨rfl,hw⟩;subst hw)
   |fail)
  go_at_call 182;refine(refwrong_any _ _ _).mono ?_;rintro r w4 ⟨rfl,hb4⟩;have hR4:=(hb4.block _ (blkLt HT.out.2.1)).trans HT.out.2.1;have HB4:=hide' (HT.out.2.2.trans (hb4.mono HT.out.2.2.size));clear hb4 r0 r1 r2 r3 r4 r5 rf;obtain⟨⟨r0,r1,r2,r3,r4,r5⟩,rf⟩:=ccells_of hR4;have hrl4:=blkLt hR4;clear hR4;unfold wrongV;go_wp2;refine bodyPost_ret (v:= .tuple #[wrongV bigB false,.int .i64 1]) (by simp[results,Tryz.results171,go_sem,wrongV,bigB,r0,r1,r2,r3,r4,r5]) rfl ⟨⟨.slice none 0 0,rfl,.inl ⟨rfl,rfl⟩⟩,set6 HB4.out (Nat.le_refl _) _ _ _ _ _ _⟩
 ·rw[if_neg h40];have h40':¬(40:Int)<(n:Int):=by omega
  by_cases hle:s.size≤e+1+n
  ·rw[if_pos hle];have hle':(s.size:Int)-(e:Int)-1≤(n:Int):=by omega
   clear hlast hb0 hll;go_enter Tryz.func171,Tryz.ntmps171;go_wp2_with (first
    |(go_at_call 181;refine(HE.out _).mono ?_;rintro r w1 ⟨rfl,rfl⟩)
    |(go_at_call 183;refine(HSp.out _).mono ?_;rintro r w2 ⟨g,c,rfl,hown,hb2⟩;obtain⟨hT,hg⟩:=owns_texts rfl (by simp) hown;have hR2:w2.heap[w.heap.size]?=some zCmdO:=(hb2.block _ (by simp)).trans (blkNew w _);obtain⟨_,hRl,hBl⟩:=zres (by simpa using hb2);have HT:=hide' (And.intro hT (And.intro hR2 hBl));have hgl:=hT.lt;have hgw:w.heap.size<g:=(by simp at hg;omega);have c0:=texts_cell hT (i:=0) rfl;have c1:=texts_cell hT (i:=1) rfl;have c2:=texts_cell hT (i:=2) rfl;obtain⟨⟨r0,r1,r2,r3,r4,r5⟩,rf⟩:=ccells_of hR2;clear hown hb2 hT hR2 hBl hg;dsimp only[List.length_cons,List.length_nil,Nat.reduceAdd])
    |(go_at_call 137;refine(HKy.out _).mono ?_;rintro r w' ⟨rfl,hw⟩;subst hw)
    |(go_at_call 184;refine(HCz.out _).mono ?_;rintro r w' ⟨rfl,hw⟩;subst hw)
    |fail)
   refine bodyPost_ret (v:= .tuple #[zCmdV,.int .i64 0]) (by simp[results,Tryz.results171,go_sem,zCmdV,r0,r1,r2,r3,r4,r5]) rfl ⟨rfl,set6 HT.out.2.2 (Nat.le_refl _) _ _ _ _ _ _⟩
  ·rw[if_neg hle];have hle':¬(s.size:Int)-(e:Int)-1≤(n:Int):=by omega
   obtain⟨m,hm⟩:∃m,m=e+1+n:=⟨_,rfl⟩
   have hsz:=hlast h40 (by omega);have hml:m<s.size:=by omega
   have z1:(s.size:Int)-1=(m:Int):=by omega
   have hgd:s.data.toList.getD (e+1+n) 0=s[m]:=by rw[←hm,getD_str hml]
   rw[hgd,hb0,←hm];clear hlast hb0 hll hgd;by_cases h10:s[m]=10
   ·rw[if_neg (by simpa using h10)];have hb10:((s[m].toNat:Int) != 10)=false:=by rw[h10];rfl
    have z2:(e:Int)+1+(n:Int)=(m:Int):=by omega
    have z3:(e:Int)+1≤(m:Int):=by omega
    have z4:(m:Int)≤(s.size:Int):=by omega
    have z5:e+1≤m:=by omega
    have z7:(0:Int)≤(e:Int)+1:=by omega
    have z8:IntKind.i64.wrap ((e:Int)+1)=(e:Int)+1:=wrap_small _ (by omega) (by omega);have z9:IntKind.i64.wrap ((e:Int)+1+(n:Int))=(m:Int):=by rw[z2];exact wrap_small _ (by omega) (by omega)
    have z10:IntKind.i64.wrap ((m:Int))=(m:Int):=wrap_small _ (by omega) (by omega);have z6:m≤s.size:=by omega
    clear hsz hm hle;go_enter Tryz.func171,Tryz.ntmps171;go_wp2_with (first
     |(go_at_call 181;refine(HE.out _).mono ?_;rintro r w1 ⟨rfl,rfl⟩)
     |(go_at_call 183;refine(HSp.out _).mono ?_;rintro r w2 ⟨g,c,rfl,hown,hb2⟩;obtain⟨hT,hg⟩:=owns_texts rfl (by simp) hown;have hR2:w2.heap[w.heap.size]?=some zCmdO:=(hb2.block _ (by simp)).trans (blkNew w _);obtain⟨_,hRl,hBl⟩:=zres (by simpa using hb2);have HT:=hide' (And.intro hT (And.intro hR2 hBl));have hgl:=hT.lt;have hgw:w.heap.size<g:=(by simp at hg;omega);have c0:=texts_cell hT (i:=0) rfl;have c1:=texts_cell hT (i:=1) rfl;have c2:=texts_cell hT (i:=2) rfl;obtain⟨⟨r0,r1,r2,r3,r4,r5⟩,rf⟩:=ccells_of hR2;clear hown hb2 hT hR2 hBl hg;dsimp only[List.length_cons,List.length_nil,Nat.reduceAdd])
     |(go_at_call 137;refine(HKy.out _).mono ?_;rintro r w' ⟨rfl,hw⟩;subst hw)
     |(go_at_call 184;refine(HCz.out _).mono ?_;rintro r w' ⟨rfl,hw⟩;subst hw)
     |fail)
    have hgn:¬g=w.heap.size:=by omega
    have hgn':¬w.heap.size=g:=by omega
    go_region_held3 (fun W=>W.cell? ⟨g,1,none⟩=some (.string y)) (go_keep) (fail)
    go_wp2_with fail
    have hsz':=HT.out.2.2.size;refine bodyPost_ret (v:= .tuple #[cmdVR ⟨2,[y],s.extract (e+1) m,noB,false,0⟩ (.slice (some ⟨w'.heap.size,0,none⟩) 1 1),.int .i64 1]) (by simp[results,Tryz.results171,go_sem,cmdVR,noB,r0,r1,r2,r3,r4,r5,hRl]) rfl ⟨⟨_,rfl,.inr ⟨w'.heap.size,0,1,#[.string y],rfl,hsz',?_,?_,Nat.le_refl _⟩⟩,?_⟩
    ·repeat(first|with_reducible refine hs_set ?_ (by simp;try omega)|with_reducible refine hs_drewN ?_ _|with_reducible refine hs_drew ?_|with_reducible exact hs_new (by simp)|with_reducible refine hs_alloc ?_ _)
    ·intro i x hx;match i,hx with
     |0,hx=>simp at hx;subst hx;rfl
    ·exact((set6 HT.out.2.2 (Nat.le_refl _) _ _ _ _ _ _).alloc (by simp;omega) _).drew
   ·rw[if_pos h10];have hb10:((s[m].toNat:Int)==10)=false:=u8_ne h10;have hb10':((s[m].toNat:Int) != 10)=true:=by simp only[bne,hb10,Bool.not_false]
    clear hsz hm;go_enter Tryz.func171,Tryz.ntmps171;go_wp2_with (first
     |(go_at_call 181;refine(HE.out _).mono ?_;rintro r w1 ⟨rfl,rfl⟩)
     |(go_at_call 183;refine(HSp.out _).mono ?_;rintro r w2 ⟨g,c,rfl,hown,hb2⟩;obtain⟨hT,hg⟩:=owns_texts rfl (by simp) hown;have hR2:w2.heap[w.heap.size]?=some zCmdO:=(hb2.block _ (by simp)).trans (blkNew w _);obtain⟨_,hRl,hBl⟩:=zres (by simpa using hb2);have HT:=hide' (And.intro hT (And.intro hR2 hBl));have hgl:=hT.lt;have hgw:w.heap.size<g:=(by simp at hg;omega);have c0:=texts_cell hT (i:=0) rfl;have c1:=texts_cell hT (i:=1) rfl;have c2:=texts_cell hT (i:=2) rfl;obtain⟨⟨r0,r1,r2,r3,r4,r5⟩,rf⟩:=ccells_of hR2;clear hown hb2 hT hR2 hBl hg;dsimp only[List.length_cons,List.length_nil,Nat.reduceAdd])
     |(go_at_call 137;refine(HKy.out _).mono ?_;rintro r w' ⟨rfl,hw⟩;subst hw)
     |(go_at_call 184;refine(HCz.out _).mono ?_;rintro r w' ⟨rfl,hw⟩;subst hw)
     |fail)
    go_at_call 182;refine(refwrong_any _ _ _).mono ?_;rintro r w4 ⟨rfl,hb4⟩;have hR4:=(hb4.block _ (blkLt HT.out.2.1)).trans HT.out.2.1;have HB4:=hide' (HT.out.2.2.trans (hb4.mono HT.out.2.2.size));clear hb4 r0 r1 r2 r3 r4 r5 rf;obtain⟨⟨r0,r1,r2,r3,r4,r5⟩,rf⟩:=ccells_of hR4;have hrl4:=blkLt hR4;clear hR4;unfold wrongV;go_wp2;refine bodyPost_ret (v:= .tuple #[wrongV dataB false,.int .i64 2]) (by simp[results,Tryz.results171,go_sem,wrongV,dataB,r0,r1,r2,r3,r4,r5]) rfl ⟨⟨.slice none 0 0,rfl,.inl ⟨rfl,rfl⟩⟩,set6 HB4.out (Nat.le_refl _) _ _ _ _ _ _⟩
theorem countS_le' {s:ByteArray}{n:Nat}(h:countS s=some n):n≤999:=by
 unfold countS at h;split at h
 ·cases h
 ·rename_i hc;split at h
  ·rename_i ha;cases h;have h1:=digsTo_lt s.data.toList ha;have h2:s.data.toList.length≤3:=by rw[len_size'];omega
   have h3:10 ^ s.data.toList.length≤10 ^ 3:=Nat.pow_le_pow_right (n:=10) (by decide) h2;omega
  ·cases h
theorem refline_any (s:ByteArray)(pre:List UInt8)(b:UInt8)(w:World)(hs:s.size≤1000000000000)(hb:s.data.toList=pre++[b])(h0:lnR pre=none):Calls Tryz.prog 171 #[.string s] w fun r w'=>RefOut w w' (lnR s.data.toList) r∧Below w.heap.size w w':=by
 obtain⟨f1,f2⟩:=ln_end hb h0;have hll:=len_size' s;by_cases hp:0≤Go.Lib.indexByte s.data.toList 10
 ·obtain⟨g1,g2,g3⟩:=f2 hp;obtain⟨e,he⟩:∃e:Nat,Go.Lib.indexByte s.data.toList 10=(e:Int):=⟨(Go.Lib.indexByte s.data.toList 10).toNat,by omega⟩
  rw[he]at g1 g2 g3;have hte:((e:Int)).toNat=e:=by omega
  rw[hte]at g1 g2 g3;rw[g3];unfold lineR;cases hsz:setSizeR (wordsOf (s.data.toList.take e))with
  |some n=>
   simp only
   have hsz':=hsz;unfold setSizeR at hsz';split at hsz'
   ·rename_i hc;obtain⟨c1,c2,c3⟩:=hc;obtain⟨x,y,z,hws⟩:∃x y z,wordsOf (s.data.toList.take e)=[x,y,z]:=by
     match hw:wordsOf (s.data.toList.take e),c1 with
     | [x,y,z],_=>exact⟨x,y,z,rfl⟩
    rw[hws]at c2 c3 hsz';have hx:x=⟨#[115,101,116]⟩:=(kindB_set _).1 c2;subst hx;rw[hws];exact refline_set s e n y z w hs he (by omega) hws c3 hsz' (countS_le' hsz') (fun h40 hl=>by
     have:=(ln_more hb h0 he.symm hsz h40 (by omega)).1;omega)
   ·cases hsz'
  |none=>
   simp only
   have hf:=refline_form s e _ w hs he (by omega) rfl hsz;refine hf.mono fun r w' ⟨h1,h2⟩=>⟨?_,h2⟩
   by_cases hc:kindB ((wordsOf (s.data.toList.take e)).getD 0 noB)=2∨cmdB (kindB ((wordsOf (s.data.toList.take e)).getD 0 noB)) ((wordsOf (s.data.toList.take e)).drop 1) noB=false
   ·rw[if_pos hc];rw[if_pos ((kindRf_eq _ _).1 hc)]at h1;exact h1
   ·rw[if_neg hc,kindRf_ok hc];rw[if_neg (fun h=>hc ((kindRf_eq _ _).2 h))]at h1;exact h1
 ·rw[f1 hp,hll];exact refline_none s w hs hp
end Go.Proofs.YtlonjggfnleolaaGreatDoor
