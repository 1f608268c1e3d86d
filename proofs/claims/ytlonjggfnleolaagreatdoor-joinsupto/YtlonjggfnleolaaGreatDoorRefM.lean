import Derived.Test.YtlonjggfnleolaaGreatDoorRefF
namespace Go.Proofs.YtlonjggfnleolaaGreatDoor
open Go.RowKit
set_option linter.unusedVariables false
set_option maxHeartbeats 16000000
set_option maxRecDepth 20000
variable {s:ByteArray}{k F C:Nat}{acc:List ByteArray}{w W W':World}{c:Cmd}{kv:Value}
theorem one_end:lsFin (textsW s.data.toList (k+1) ⟨s.size,false,false⟩ acc)=none:=by
 have e0:textsW s.data.toList (k+1) ⟨s.size,false,false⟩ acc=textsW s.data.toList k (oneW s.data.toList ⟨s.size,false,false⟩).2 (acc++[(oneW s.data.toList ⟨s.size,false,false⟩).1]):=rfl;have e1:expectW s.data.toList 36 ⟨s.size,false,false⟩=⟨s.size,false,true⟩:=by
  unfold expectW;rw[if_pos (by simp[WS.look])];simp[WS.look]
 rw[e0];obtain⟨b1,b2⟩:=countW_short (bs:=s.data.toList) (lo:=0) (hi:=40) (s:=⟨s.size,false,true⟩) rfl rfl;obtain⟨c1,c2⟩:=textW_short (bs:=s.data.toList) (n:=(countW s.data.toList 0 40 ⟨s.size,false,true⟩).1) b1 b2;obtain⟨d1,d2⟩:=expectW_short (bs:=s.data.toList) (c:=10) c1 c2;refine lsFin_short ?_ ?_
 ·unfold oneW;simp only;rw[e1];exact d1
 ·unfold oneW;simp only;rw[e1];exact d2
theorem one_bad {p:Nat}(hp:p<s.size)(hd:¬s[p]=36):∃u,lsFin (textsW s.data.toList (k+1) ⟨p,false,false⟩ acc)=some ⟨wrongC formB true,u,false⟩:=by
 have e0:textsW s.data.toList (k+1) ⟨p,false,false⟩ acc=textsW s.data.toList k (oneW s.data.toList ⟨p,false,false⟩).2 (acc++[(oneW s.data.toList ⟨p,false,false⟩).1]):=rfl;have hl:s.data.toList.length=s.size:=len_size' s;have e1:expectW s.data.toList 36 ⟨p,false,false⟩=⟨p,true,false⟩:=by
  unfold expectW;rw[if_neg (by simp[WS.look,hl];omega),if_neg (by show¬s.data.toList.getD p 0=36;rw[getD_str hp];exact hd)]
 rw[e0];refine lsFin_wrong ?_;unfold oneW;simp only
 rw[e1];exact wrong_stays (textW_stays (countW_stays rfl))
def formO:Obj:= .cells #[.int .i64 4,.slice none 0 0,.string ⟨#[]⟩,.string formB,.bool true,.int .i64 0] 36 (0,0)
structure LsAt (w W:World)(F:Nat):Prop where
 res:W.heap[w.heap.size]?=some zCmdO
 none_:W.heap[w.heap.size+1]?=some zCmdO
 form:W.heap[F]?=some formO
 gt:w.heap.size+1<F
 below:Below w.heap.size w W
theorem LsAt.later (h:LsAt w W F)(hb:Below W.heap.size W W'):LsAt w W' F:=
 ⟨(hb.block _ (blkLt h.res)).trans h.res,(hb.block _ (blkLt h.none_)).trans h.none_,(hb.block _ (blkLt h.form)).trans h.form,h.gt,h.below.trans (hb.mono h.below.size)⟩
theorem LsAt.grown {n:Nat}{v:Value}{xs:List Value}(h:LsAt w W F)(ho:W.ownsRow w.heap.size 9 1 v n xs)(hg:W.grownBy W' v.ownBlock):LsAt w W' F:=by
 have ne:∀k Z,W.heap[k]?=some (.cells Z 36 (0,0))→some k≠v.ownBlock:=by
  intro k Z hZ e;obtain⟨_,⟨rfl,_⟩|⟨g,cap,cur,rfl,_,hh,_⟩⟩:=ho
  ·cases e
  ·have:k=g:=by simpa [Value.ownBlock]using e
   rw[this,hh]at hZ;cases hZ
 exact⟨(hg.block _ (blkLt h.res) (ne _ _ h.res)).trans h.res,(hg.block _ (blkLt h.none_) (ne _ _ h.none_)).trans h.none_,(hg.block _ (blkLt h.form) (ne _ _ h.form)).trans h.form,h.gt,h.below.trans (grown_base ho hg h.below.size)⟩
structure LsCells (w W:World)(F:Nat):Prop where
 r:CCells W w.heap.size 0 (.slice none 0 0) ⟨#[]⟩
 n:CCells W (w.heap.size+1) 0 (.slice none 0 0) ⟨#[]⟩
 f:W.cell? ⟨F,0,none⟩=some (.int .i64 4)∧W.cell? ⟨F,1,none⟩=some (.slice none 0 0)∧W.cell? ⟨F,2,none⟩=some (.string ⟨#[]⟩)∧W.cell? ⟨F,3,none⟩=some (.string formB)∧W.cell? ⟨F,4,none⟩=some (.bool true)∧W.cell? ⟨F,5,none⟩=some (.int .i64 0)
 lt:F<W.heap.size
 lt2:w.heap.size+1<W.heap.size
theorem LsAt.cells (h:LsAt w W F):LsCells w W F:=
 ⟨ccells_of h.res,ccells_of h.none_,⟨blkCell h.form 0,blkCell h.form 1,blkCell h.form 2,blkCell h.form 3,blkCell h.form 4,blkCell h.form 5⟩,blkLt h.form,blkLt h.none_⟩
theorem CmdAt.drew (h:CmdAt w W C c kv):CmdAt w W.drew C c kv:=⟨h.at_,h.res,h.gt,h.keys.other (Nat.le_refl _) (fun _ _ _ _=>rfl),h.below.drew⟩
theorem CmdAt.put (h:CmdAt w W C c kv)(c':Cmd)(kv':Value)(hk:KeysR W w.heap.size kv' c'.keys):
 CmdAt w ((((((W.setCell ⟨C,0,none⟩ (.int .i64 c'.kind)).setCell ⟨C,1,none⟩ kv').setCell ⟨C,2,none⟩ (.string c'.val)).setCell ⟨C,3,none⟩ (.string c'.word)).setCell ⟨C,4,none⟩ (.bool c'.fatal)).setCell ⟨C,5,none⟩ (.int .i64 c'.id)) C c' kv':=
 ⟨(blkSet (i:=5) (blkSet (i:=4) (blkSet (i:=3) (blkSet (i:=2) (blkSet (i:=1) (blkSet (i:=0) h.at_ _) _) _) _) _) _).trans rfl,(set6_other (by have:=h.gt;omega) _ _ _ _ _ _).trans h.res,h.gt,hk.other (Nat.le_refl _) (fun b Z hZ _=>set6_other (fun e=>by rw[e,h.at_]at hZ;cases hZ) _ _ _ _ _ _),set6 h.below (Nat.le_of_lt h.gt) _ _ _ _ _ _⟩
theorem CmdAt.putD {kv':Value}{ks:List ByteArray}(h:CmdAt w W C c kv)(k:Int)(v:ByteArray)(i:Int)(hk:KeysR W w.heap.size kv' ks):
 CmdAt w ((((((W.setCell ⟨C,0,none⟩ (.int .i64 k)).setCell ⟨C,1,none⟩ kv').setCell ⟨C,2,none⟩ (.string v)).setCell ⟨C,3,none⟩ (.string ⟨#[]⟩)).setCell ⟨C,4,none⟩ (.bool false)).setCell ⟨C,5,none⟩ (.int .i64 i)).drew C ⟨k,ks,v,noB,false,i⟩ kv':=
 (h.put ⟨k,ks,v,noB,false,i⟩ kv' hk).drew
theorem reflist_any (s:ByteArray)(w:World)(hs:s.size≤1000000000000)(h1:0<s.size):Calls Tryz.prog 173 #[.string s] w fun r w'=>RefOut w w' (lsR s.data.toList) r∧Below w.heap.size w w':=by
 have hll:=len_size' s;have hE:∀h:s[0]=42,lsR s.data.toList=lsFin (textsW s.data.toList (countF s.data.toList 1 5 (s.size-1) 1 0 true).1 (countF s.data.toList 1 5 (s.size-1) 1 0 true).2 []):=by
  intro h;unfold lsR lsFin;simp only
  have e1:expectW s.data.toList 42 ⟨0,false,false⟩=⟨1,false,false⟩:=by
   unfold expectW;rw[if_neg (by simp[WS.look,hll];omega),if_pos (by show s.data.toList.getD 0 0=42;rw[getD_str h1];exact h)]
  rw[e1,countW_F (by omega),hll]
 have hE0:¬s[0]=42→∃u,lsR s.data.toList=some ⟨wrongC formB true,u,false⟩:=by
  intro h;have e1:expectW s.data.toList 42 ⟨0,false,false⟩=⟨0,true,false⟩:=by
   unfold expectW;rw[if_neg (by simp[WS.look,hll];omega),if_neg (by show¬s.data.toList.getD 0 0=42;rw[getD_str h1];exact h)]
  unfold lsR;simp only
  rw[e1];exact lsFin_wrong (countW_stays rfl)
 have HF:Hid (∀(W:World),Below (w.heap.size+2) ((w.alloc (.cells #[.int .i64 0,.slice none 0 0,.string ⟨#[]⟩,.string ⟨#[]⟩,.bool false,.int .i64 0] 36)).alloc (.cells #[.int .i64 0,.slice none 0 0,.string ⟨#[]⟩,.string ⟨#[]⟩,.bool false,.int .i64 0] 36)) W→LsAt w (W.alloc (.cells #[.int .i64 4,.slice none 0 0,.string ⟨#[]⟩,.string formB,.bool true,.int .i64 0] 36)) W.heap.size):=by
  intro W h;have hsz:=h.size;simp at hsz;have a1:W.heap[w.heap.size]?=some zCmdO:=(h.block _ (by omega)).trans (hs_alloc (blkNew w _) _);have a2:W.heap[w.heap.size+1]?=some zCmdO:=(h.block _ (by omega)).trans (hs_new (by simp));exact⟨hs_alloc a1 _,hs_alloc a2 _,blkNew W _,by omega,((((Below.refl _ _).alloc (Nat.le_refl _) _).alloc (by simp) _).trans (h.mono (by omega))).alloc (by omega) _⟩
 generalize lsR s.data.toList=RES at*;have HE:=hide' (And.intro hE hE0);clear hE hE0;go_enter Tryz.func173,Tryz.ntmps173;go_wp2_with fail
 go_at_call 182;refine(refwrong_any _ _ _).mono ?_;rintro r w1 ⟨rfl,hb1⟩;have HL:=hide' (HF.out w1 (by simpa using hb1));have hR1:w1.heap[w.heap.size]?=some zCmdO:=(hb1.block _ (by simp;omega)).trans (hs_alloc (blkNew w _) _);have hRl:=blkLt hR1;have HN1:=hide' (show w1.heap[w.heap.size+1]?=some zCmdO from(hb1.block _ (by simp)).trans (hs_new (by simp)));have HB1:=hide' (show Below w.heap.size w w1 from(((Below.refl _ _).alloc (Nat.le_refl _) _).alloc (by simp) _).trans (hb1.mono (by simp;omega)));obtain⟨⟨r0,r1,r2,r3,r4,r5⟩,rf⟩:=ccells_of hR1;clear hb1 HF hR1;unfold wrongV;by_cases h42:s[0]=42
 ·have hb42:((s[0].toNat:Int) != 42)=false:=by rw[h42];rfl
  have hR:=HE.out.1 h42;have HN:=hide' (fun W=>refnumber_any s 1 1 5 W (by unfold maxLen;omega) (by omega) (by omega) (by omega));have hmost:=countF_most (bs:=s.data.toList) (lo:=1) (hi:=5) (s.size-1) 1 0 true (by omega);have hok:=countF_ok (bs:=s.data.toList) (least:=1) (most:=5) (s.size-1) 1 0 true (by omega);have hleast:=countF_least (bs:=s.data.toList) (lo:=1) (hi:=5) (s.size-1) 1 0 true (fun h=>by cases h);generalize countF s.data.toList 1 5 (s.size-1) 1 0 true=C0 at*;obtain⟨many,p0,wr0,sh0⟩:=C0;simp only at hR hmost hleast;cases wr0 with
  |true=>
   obtain⟨u,hu⟩:=lsFin_wrong (bs:=s.data.toList) (k:=many) (s:=⟨p0,true,sh0⟩) (acc:=[]) rfl;rw[hu]at hR;subst hR;have e1:numR (many,⟨p0,true,sh0⟩)=(0,-2):=rfl;rw[e1]at HN;clear hok hleast hmost HE e1 hu;go_wp2_with (first|(go_at_call 185;refine(HN.out _).mono ?_;rintro r w2 ⟨rfl,hw⟩;subst hw)|fail)
   go_loop [7,8,9] (fun a l k=>a= .int .i64 (-2)∧l= .slice none 0 0∧k= .int .i64 0) (fun _ _ _=>0)
   case atStart=>exact⟨rfl,rfl,rfl⟩
   case round=>
    obtain⟨rfl,rfl,rfl⟩:=hrel;have hBs:=HB1.out.size;go_wp2_with fail
    refine bodyPost_ret (v:= .tuple #[wrongV formB true,.int .i64 1]) (by simp[results,Tryz.results173,go_sem,wrongV,formB,r0,r1,r2,r3,r4,r5,hRl]) rfl ⟨⟨.slice none 0 0,rfl,.inl ⟨rfl,rfl⟩⟩,?_⟩;repeat(first|with_reducible exact HB1.out|with_reducible refine Below.drew ?_|with_reducible refine Below.alloc ?_ (by first|omega|(simp;try omega)) _|with_reducible refine Below.setCell ?_ (by first|exact Nat.le_refl _|(simp;try omega)) _)
  |false=>
   cases sh0 with
   |true=>
    rw[lsFin_short (bs:=s.data.toList) (k:=many) (s:=⟨p0,false,true⟩) (acc:=[]) rfl rfl]at hR;subst hR;have e1:numR (many,⟨p0,false,true⟩)=(0,-1):=rfl;rw[e1]at HN;have hn0:w1.heap[w.heap.size+1]?=some zCmdO:=HN1.out;have hNl:=blkLt hn0;obtain⟨⟨n0,n1,n2,n3,n4,n5⟩,nf⟩:=ccells_of hn0;clear hok hleast hmost HE e1 hn0;go_wp2_with (first|(go_at_call 185;refine(HN.out _).mono ?_;rintro r w2 ⟨rfl,hw⟩;subst hw)|fail)
    go_loop [7,8,9] (fun a l k=>a= .int .i64 (-1)∧l= .slice none 0 0∧k= .int .i64 0) (fun _ _ _=>0)
    case atStart=>exact⟨rfl,rfl,rfl⟩
    case round=>
     obtain⟨rfl,rfl,rfl⟩:=hrel;have hBs:=HB1.out.size;go_wp2_with fail
     refine bodyPost_ret (v:= .tuple #[zCmdV,.int .i64 0]) (by simp[results,Tryz.results173,go_sem,zCmdV,r0,r1,r2,r3,r4,r5,hRl]) rfl ⟨rfl,?_⟩;repeat(first|with_reducible exact HB1.out|with_reducible refine Below.drew ?_|with_reducible refine Below.alloc ?_ (by first|omega|(simp;try omega)) _|with_reducible refine Below.setCell ?_ (by first|exact Nat.le_refl _|(simp;try omega)) _)
   |false=>
    have e1:numR (many,⟨p0,false,false⟩)=((many:Int),(p0:Int)):=rfl;rw[e1]at HN;have hm1:1≤many:=hleast rfl rfl;have hp0:p0≤s.size:=by have:=hok.pos;rw[hll]at this;exact this
    have HR:=hide' hR.symm;clear hok hleast HE e1 hR;obtain⟨i9,hi,hz0,hz1,hz2⟩:=info9;have HI:=hide' (And.intro hi (And.intro hz0 (And.intro hz1 hz2)));clear hi hz0 hz1 hz2;go_wp2_with (first|(go_at_call 185;refine(HN.out _).mono ?_;rintro r w2 ⟨rfl,hw⟩;subst hw)|fail)
    clear HN r0 r1 r2 r3 r4 r5 rf hRl HN1 HB1;go_loopw [7,8,9] (fun a l k wr=>∃(p j:Nat) (acc:List ByteArray) (va:Option Addr) (vn vc:Nat),a= .int .i64 (p:Int)∧l= .slice va vn vc∧k= .int .i64 (j:Int)∧j≤many∧p≤s.size∧Hid (acc.length=j)∧Hid (lsFin (textsW s.data.toList (many-j) ⟨p,false,false⟩ acc)=RES)∧Hid (∀x∈acc,x.size≤1000000000000)∧Hid (LsAt w wr w1.heap.size∧wr.ownsRow w.heap.size 9 1 (.slice va vn vc) acc.length (acc.map Value.string))) (fun _ _ k _=>many-(intOf k).toNat)
    case atStart=>exact⟨p0,0,[],none,0,0,rfl,rfl,rfl,Nat.zero_le _,hp0,rfl,HR,(fun x hx=>by cases hx),HL.out,World.ownsRow_nil _ _ _ _⟩
    case round=>
     clear HL HR hp0;obtain⟨p,j,acc,va,vn,vc,rfl,rfl,rfl,hj,hp,HAL,HC,HSz,HJ⟩:=hrel;obtain⟨⟨⟨r0,r1,r2,r3,r4,r5⟩,rf⟩,⟨⟨n0,n1,n2,n3,n4,n5⟩,nf⟩,⟨f0,f1,f2,f3,f4,f5⟩,hFl,hNl⟩:=HJ.out.1.cells;have hgt:=HJ.out.1.gt;have hpi:(0:Int)≤(p:Int):=by omega
     by_cases hjm:j<many
     ·obtain⟨k,hk⟩:∃k,many-j=k+1:=⟨many-j-1,by omega⟩
      have hC:=HC.out;rw[hk]at hC;by_cases hps:p=s.size
      ·rw[hps,one_end]at hC;subst hC;subst hps;clear HC hk;go_wp2_with fail
       refine bodyPost_ret (v:= .tuple #[zCmdV,.int .i64 0]) (by simp[results,Tryz.results173,go_sem,zCmdV,r0,r1,r2,r3,r4,r5]) rfl ⟨rfl,?_⟩;exact set6 HJ.out.1.below (Nat.le_refl _) _ _ _ _ _ _
      ·have hpl:p<s.size:=by omega
       have hpl':¬(s.size:Int)≤(p:Int):=by omega
       by_cases h36:s[p]=36
       ·obtain⟨o1,o2,o3⟩:=one_at (k:=k) (acc:=acc) hpl h36;have hb36:((s[p].toNat:Int) != 36)=false:=by rw[h36];rfl
        have HN2:Hid (∀W:World,Calls Tryz.prog 185 #[.string s,.int .i64 ((p:Int)+1),.int .i64 0,.int .i64 40] W fun e w'=>e= .returned (.tuple #[.int .i64 (numR (countF s.data.toList 0 40 (s.size-(p+1)) (p+1) 0 true)).1,.int .i64 (numR (countF s.data.toList 0 40 (s.size-(p+1)) (p+1) 0 true)).2])∧w'=W):=fun W=>refnumber_any s (p+1) 0 40 W (by unfold maxLen;omega) (by omega) (by omega) (by omega)
        have hok2:=countF_ok (bs:=s.data.toList) (least:=0) (most:=40) (s.size-(p+1)) (p+1) 0 true (by omega);have hmo2:=countF_most (bs:=s.data.toList) (lo:=0) (hi:=40) (s.size-(p+1)) (p+1) 0 true (by omega);generalize countF s.data.toList 0 40 (s.size-(p+1)) (p+1) 0 true=C1 at*;obtain⟨n,q,wq,sq⟩:=C1;simp only at o1 o2 hmo2;have hq:q≤s.size:=by have:=hok2.pos;rw[hll]at this;exact this
        clear hok2;cases wq with
        |true=>
         obtain⟨u,hu⟩:=o1 rfl;rw[hu]at hC;subst hC;have e1:numR (n,⟨q,true,sq⟩)=(0,-2):=rfl;rw[e1]at HN2;clear o1 o2 o3 HC hk e1 hu;go_wp2_with (first|(go_at_call 185;refine(HN2.out _).mono ?_;rintro r w2 ⟨rfl,hw⟩;subst hw)|fail)
         refine bodyPost_ret (v:= .tuple #[wrongV formB true,.int .i64 1]) (by simp[results,Tryz.results173,go_sem,wrongV,formB,r0,r1,r2,r3,r4,r5]) rfl ⟨⟨.slice none 0 0,rfl,.inl ⟨rfl,rfl⟩⟩,?_⟩;exact set6 HJ.out.1.below (Nat.le_refl _) _ _ _ _ _ _
        |false=>
         cases sq with
         |true=>
          rw[o2 rfl rfl]at hC;subst hC;have e1:numR (n,⟨q,false,true⟩)=(0,-1):=rfl;rw[e1]at HN2;clear o1 o2 o3 HC hk e1;go_wp2_with (first|(go_at_call 185;refine(HN2.out _).mono ?_;rintro r w2 ⟨rfl,hw⟩;subst hw)|fail)
          refine bodyPost_ret (v:= .tuple #[zCmdV,.int .i64 0]) (by simp[results,Tryz.results173,go_sem,zCmdV,r0,r1,r2,r3,r4,r5]) rfl ⟨rfl,?_⟩;exact set6 HJ.out.1.below (Nat.le_refl _) _ _ _ _ _ _
         |false=>
          obtain⟨o4,o5,o6⟩:=o3 n q rfl;have e1:numR (n,⟨q,false,false⟩)=((n:Int),(q:Int)):=rfl;rw[e1]at HN2;clear o1 o2 o3 e1;have hq0:¬(q:Int)<0:=by omega
          obtain⟨m,hm⟩:∃m,m=q+n:=⟨_,rfl⟩
          have zm:(q:Int)+(n:Int)=(m:Int):=by omega
          rw[←hm]at o4;have HO:Hid (∀h:m<s.size,(¬s[m]=10→∃u,lsFin (textsW s.data.toList (k+1) ⟨p,false,false⟩ acc)=some ⟨wrongC formB true,u,false⟩)∧(s[m]=10→textsW s.data.toList (k+1) ⟨p,false,false⟩ acc=textsW s.data.toList k ⟨m+1,false,false⟩ (acc++[s.extract q m]))):=by
           subst hm;exact fun h=>⟨o5 h,o6 h⟩
          clear o5 o6;have hqm:q≤m:=by omega
          have hm40:m≤q+40:=by omega
          clear hm;by_cases hml:m<s.size
          ·have hml':¬(s.size:Int)≤(m:Int):=by omega
           obtain⟨g1,g2⟩:=HO.out hml;clear o4 HO;by_cases h10:s[m]=10
           ·have hT:=g2 h10;rw[hT]at hC;have HC2:=hide' hC;have hb10:((s[m].toNat:Int) != 10)=false:=by rw[h10];rfl
            clear g1 g2 hT hC HC;have y1:(0:Int)≤(q:Int):=by omega
            have y2:(q:Int)≤(m:Int):=by omega
            have y3:(m:Int)≤(s.size:Int):=by omega
            have hbase:w.heap.size≤wr.heap.size:=HJ.out.1.below.size;have hal:acc.length≤5:=by rw[HAL.out];omega
            go_wp2_with (first
             |(go_at_call 185;refine(HN2.out _).mono ?_;rintro r w2 ⟨rfl,hw⟩;subst hw)
             |(at_builtin;refine wpList_append_own_at _ rfl _ _ _ rfl w.heap.size 9 i9 (.string ⟨#[]⟩) 1 16 Tryz.underlying34 HI.out.1 HI.out.2.1 HI.out.2.2.1 HI.out.2.2.2 rfl (by omega) (.slice va vn vc) acc.length (acc.map Value.string) rfl (World.ownsRow.alloc HJ.out.2 _) ⟨_,0,none⟩ 1 1 [.string (s.extract q m)] rfl rfl (cell_one_new _ _ _) (by simp[Value.oneCell']) (by unfold maxLen;omega) (by omega) (by simp;omega) ?_;intro v' w9 hown hgrow hnil hat;obtain⟨ua,un,uc,huf⟩:=own_formR hown;subst huf;have HG:=hide' (And.intro hown hgrow);clear hown hgrow hnil hat)
             |fail)
            go_roundw;case rel=>
             have hkk:many-(j+1)=k:=by omega
             refine⟨m+1,j+1,acc++[s.extract q m],_,_,_,by go_num,rfl,by go_num,by omega,by omega,?_,?_,?_,?_,?_⟩
             ·show _=_;rw[List.length_append,HAL.out];rfl
             ·show _=_;rw[hkk];exact HC2.out
             ·intro x hx;rcases List.mem_append.1 hx with h|h
              ·exact HSz.out x h
              ·rw[List.mem_singleton]at h;rw[h,ByteArray.size_extract];omega
             ·exact(HJ.out.1.later ((Below.refl _ _).alloc (Nat.le_refl _) _)).grown (World.ownsRow.alloc HJ.out.2 _) HG.out.2
             ·have:=HG.out.1;rw[List.length_append,List.map_append];exact this
            case measure=>simp[intOf];omega
           ·obtain⟨u,hu⟩:=g1 h10;rw[hu]at hC;subst hC;have hb10:((s[m].toNat:Int)==10)=false:=u8_ne h10;have hb10':((s[m].toNat:Int) != 10)=true:=by simp only[bne,hb10,Bool.not_false]
            clear g1 g2 HC hk hu;go_wp2_with (first|(go_at_call 185;refine(HN2.out _).mono ?_;rintro r w2 ⟨rfl,hw⟩;subst hw)|fail)
            refine bodyPost_ret (v:= .tuple #[wrongV formB true,.int .i64 1]) (by simp[results,Tryz.results173,go_sem,wrongV,formB,r0,r1,r2,r3,r4,r5]) rfl ⟨⟨.slice none 0 0,rfl,.inl ⟨rfl,rfl⟩⟩,?_⟩;exact set6 HJ.out.1.below (Nat.le_refl _) _ _ _ _ _ _
          ·have hml':(s.size:Int)≤(m:Int):=by omega
           rw[o4 (by omega)]at hC;subst hC;clear o4 HO HC hk;go_wp2_with (first|(go_at_call 185;refine(HN2.out _).mono ?_;rintro r w2 ⟨rfl,hw⟩;subst hw)|fail)
           refine bodyPost_ret (v:= .tuple #[zCmdV,.int .i64 0]) (by simp[results,Tryz.results173,go_sem,zCmdV,r0,r1,r2,r3,r4,r5]) rfl ⟨rfl,?_⟩;exact set6 HJ.out.1.below (Nat.le_refl _) _ _ _ _ _ _
       ·obtain⟨u,hu⟩:=one_bad (k:=k) (acc:=acc) hpl h36;rw[hu]at hC;subst hC;have hb36:((s[p].toNat:Int)==36)=false:=u8_ne h36;have hb36':((s[p].toNat:Int) != 36)=true:=by simp only[bne,hb36,Bool.not_false]
        clear HC hk hu;go_wp2_with fail
        refine bodyPost_ret (v:= .tuple #[wrongV formB true,.int .i64 1]) (by simp[results,Tryz.results173,go_sem,wrongV,formB,r0,r1,r2,r3,r4,r5]) rfl ⟨⟨.slice none 0 0,rfl,.inl ⟨rfl,rfl⟩⟩,?_⟩;exact set6 HJ.out.1.below (Nat.le_refl _) _ _ _ _ _ _
     ·have hjm2:j=many:=by omega
      subst hjm2;have hC:=HC.out;rw[Nat.sub_self]at hC;obtain⟨x,xs,hxx⟩:∃x xs,acc=x::xs:=by
       cases acc with
       |nil=>have:=HAL.out;simp at this;omega
       |cons x xs=>exact⟨x,xs,rfl⟩
      subst hxx;have hRS:RES=some (if cmdB (refC (x::xs)).kind (refC (x::xs)).keys (refC (x::xs)).val then⟨refC (x::xs),p,false⟩else⟨wrongC dataB false,p,false⟩):=by
       rw[←hC,←textsR_refC];rfl
      have HRS:=hide' hRS;clear hC HC hRS;have hxl:xs.length+1=j:=HAL.out;have hown:=HJ.out.2;have hvf:∃g c,Value.slice (some ⟨g,0,none⟩) (x::xs).length c= .slice va vn vc:=by
       obtain⟨_,⟨_,h0⟩|⟨g,cap,cur,e,_⟩⟩:=hown
       ·simp at h0
       ·exact⟨g,cap,e.symm⟩
      obtain⟨g,c,hvf⟩:=hvf;rw[←hvf]at hown;cases hvf;generalize vc=c at*;obtain⟨hT,hgw⟩:=owns_texts rfl (by simp) hown;have hgl:=hT.lt;have hcap:xs.length+1≤c:=by obtain⟨Z,_,_,h,_⟩:=hT;exact h
      have hg1:w.heap.size<g:=by
       rcases Nat.lt_or_ge w.heap.size g with h|h
       ·exact h
       ·exfalso;have e:g=w.heap.size:=by omega
        obtain⟨Z,hZ,_⟩:=hT;rw[e,HJ.out.1.res]at hZ;cases hZ
      have c0:=texts_cell hT (i:=0) (x:=x) rfl;have HT:=hide' (And.intro hT (And.intro HJ.out.1.res HJ.out.1.below));have HXS:Hid (∀y∈xs,y.size≤maxLen):=fun y hy=>Nat.le_trans (HSz.out y (by simp[hy])) (by unfold maxLen;omega)
      have hx5:xs.length≤4:=by omega
      clear hown hT HJ HSz HAL n0 n1 n2 n3 n4 n5 nf f0 f1 f2 f3 f4 f5 hFl hNl hgt;have pm1:((p:Int)== -1)=false:=by rw[beq_eq_false_iff_ne];omega
      have pm2:((p:Int)== -2)=false:=by rw[beq_eq_false_iff_ne];omega
      have jj:¬(j:Int)<(j:Int):=by omega
      rw[List.length_cons];generalize hn:xs.length=n at*;have HN:=hide' hn;have HXL:=hide' hxl;clear hn hxl;have m1:(1:Int)≤(n:Int)+1:=by omega
      have m3:(n:Int)+1≤(c:Int):=by omega
      have m4:(0:Int)<(n:Int)+1:=by omega
      go_upto_region 27 with fail
      go_cut [12] (fun s12 W=>∃C kv,s12= .pointer (some ⟨C,0,none⟩)∧CmdAt w W C ⟨0,xs,noB,noB,false,0⟩ kv∧TextsAt W g c (x::xs))
      case first=>
       by_cases hc:c=1
       ·subst hc;have hn0:n=0:=by omega
        subst hn0;have hx0:xs=[]:=List.length_eq_zero_iff.1 HN.out;subst hx0;go_wp2_with fail
        go_meet
        case rel=>exact⟨_,_,rfl,CmdAt.mk' HT.out.2.1 (keysR_none HT.out.1 (by omega)) HT.out.2.2,HT.out.1.other (Below.heap_alloc _ _ _ hgl)⟩
       ·have HKT:=hide' (keysR_tail HT.out.1 (lo:=w.heap.size) (by omega));rw[HN.out]at HKT;go_wp2_with fail
        go_meet
        case rel=>exact⟨_,_,rfl,CmdAt.mk' HT.out.2.1 HKT.out HT.out.2.2,HT.out.1.other (Below.heap_alloc _ _ _ hgl)⟩
      case rest=>
       clear c0 hgl HT r0 r1 r2 r3 r4 r5 rf;obtain⟨C,kv,rfl,hC,hT⟩:=hcut;have c0:=texts_cell hT (i:=0) (x:=x) rfl;have hgl:=hT.lt;obtain⟨⟨⟨k0,k1,k2,k3,k4,k5⟩,kf⟩,hCl,⟨⟨r0,r1,r2,r3,r4,r5⟩,rf⟩,_⟩:=hC.cells;have HC:=hide' (And.intro hC hT);have hgC:¬g=C:=fun e=>by
        obtain⟨Z,hZ,_⟩:=hT;rw[e,hC.at_]at hZ;cases hZ
       have hCg:¬C=g:=fun e=>hgC e.symm
       have hrl:=hC.gt;obtain⟨ka,kc,hkv⟩:=hC.keys.form;clear hC hT;simp only at hkv k0 k1 k2 k3 k4 k5;subst hkv;have HKS:Hid (∀W,KeysR W w.heap.size (.slice ka xs.length kc) xs→StrsAt W (.slice ka xs.length kc) xs):=fun W h=>h.strs (by rw[HN.out];omega) HXS.out
       rcases kindRf_cases x with⟨hx,hk⟩|⟨hx,hk⟩|⟨hx,hx2,hk⟩
       ·subst hx;have HCk:=hide' (HC.out.1.kind 1);have HKd:=hide' hk;clear hk;have hrc:refC (⟨#[103,101,116]⟩::xs)=⟨1,xs,noB,noB,false,0⟩:=by unfold refC;rw[if_neg (fun h=>(show¬(⟨#[103,101,116]⟩:ByteArray)=⟨#[115,101,116]⟩by decide) h.1)];show(⟨kindRf ⟨#[103,101,116]⟩,xs,noB,noB,false,0⟩:Cmd)=_;rw[HKd.out]
        rw[hrc]at HRS;simp only at HRS;have HCM:=hide' (refcmd_any (⟨1,xs,noB,noB,false,0⟩:Cmd).kind _ (⟨1,xs,noB,noB,false,0⟩:Cmd).keys (⟨1,xs,noB,noB,false,0⟩:Cmd).val noB false 0 _ (HKS.out _ HCk.out.keys) (by show noB.size≤maxLen;decide));unfold cmdV6 at HCM;simp only at HCM;cases hcm:cmdB (⟨1,xs,noB,noB,false,0⟩:Cmd).kind (⟨1,xs,noB,noB,false,0⟩:Cmd).keys (⟨1,xs,noB,noB,false,0⟩:Cmd).val with
        |false=>
         simp only at hcm;rw[hcm]at HCM;have hr:RES=some ⟨wrongC dataB false,p,false⟩:=by rw[HRS.out,hcm];rfl
         subst hr;clear HRS hcm hrc;go_wp2_with (first|(go_at_call 139;refine HCM.out.mono ?_;rintro r w3 ⟨rfl,hb3⟩;have HC3:=hide' (HCk.out.later hb3);clear hb3)|fail)
         go_at_call 182;refine(refwrong_any _ _ _).mono ?_;rintro r w4 ⟨rfl,hb4⟩;have HC4:=hide' (HC3.out.later hb4);clear hb4 HC3 r0 r1 r2 r3 r4 r5 rf hrl k0 k1 k2 k3 k4 k5 kf hCl;obtain⟨_,_,⟨⟨r0,r1,r2,r3,r4,r5⟩,rf⟩,hrl⟩:=HC4.out.cells;unfold wrongV;go_wp2;refine bodyPost_ret (v:= .tuple #[wrongV dataB false,.int .i64 1]) (by simp[results,Tryz.results173,go_sem,wrongV,dataB,r0,r1,r2,r3,r4,r5]) rfl ⟨⟨.slice none 0 0,rfl,.inl ⟨rfl,rfl⟩⟩,(HC4.out.fin _ _ _ _ _ _).1⟩
        |true=>
         simp only at hcm;rw[hcm]at HCM;have hr:RES=some ⟨⟨1,xs,noB,noB,false,0⟩,p,false⟩:=by rw[HRS.out,hcm];rfl
         subst hr;clear HRS hcm hrc;go_wp2_with (first|(go_at_call 139;refine HCM.out.mono ?_;rintro r w3 ⟨rfl,hb3⟩;have HC3:=hide' (HCk.out.later hb3);clear hb3 r0 r1 r2 r3 r4 r5 rf hrl k0 k1 k2 k3 k4 k5 kf hCl;obtain⟨⟨⟨k0,k1,k2,k3,k4,k5⟩,kf⟩,hCl,⟨⟨r0,r1,r2,r3,r4,r5⟩,rf⟩,hrl⟩:=HC3.out.cells;simp only at k0 k1 k2 k3 k4 k5)|fail)
         refine bodyPost_ret (v:= .tuple #[cmdVR ⟨1,xs,noB,noB,false,0⟩ (.slice ka xs.length kc),.int .i64 1]) (by simp[results,Tryz.results173,go_sem,cmdVR,r0,r1,r2,r3,r4,r5]) rfl ⟨⟨_,rfl,(HC3.out.fin _ _ _ _ _ _).2⟩,(HC3.out.fin _ _ _ _ _ _).1⟩
       ·subst hx;have HCk:=hide' (HC.out.1.kind 3);have HKd:=hide' hk;clear hk;have hrc:refC (⟨#[100,101,108]⟩::xs)=⟨3,xs,noB,noB,false,0⟩:=by unfold refC;rw[if_neg (fun h=>(show¬(⟨#[100,101,108]⟩:ByteArray)=⟨#[115,101,116]⟩by decide) h.1)];show(⟨kindRf ⟨#[100,101,108]⟩,xs,noB,noB,false,0⟩:Cmd)=_;rw[HKd.out]
        rw[hrc]at HRS;simp only at HRS;have HCM:=hide' (refcmd_any (⟨3,xs,noB,noB,false,0⟩:Cmd).kind _ (⟨3,xs,noB,noB,false,0⟩:Cmd).keys (⟨3,xs,noB,noB,false,0⟩:Cmd).val noB false 0 _ (HKS.out _ HCk.out.keys) (by show noB.size≤maxLen;decide));unfold cmdV6 at HCM;simp only at HCM;cases hcm:cmdB (⟨3,xs,noB,noB,false,0⟩:Cmd).kind (⟨3,xs,noB,noB,false,0⟩:Cmd).keys (⟨3,xs,noB,noB,false,0⟩:Cmd).val with
        |false=>
         simp only at hcm;rw[hcm]at HCM;have hr:RES=some ⟨wrongC dataB false,p,false⟩:=by rw[HRS.out,hcm];rfl
         subst hr;clear HRS hcm hrc;go_wp2_with (first|(go_at_call 139;refine HCM.out.mono ?_;rintro r w3 ⟨rfl,hb3⟩;have HC3:=hide' (HCk.out.later hb3);clear hb3)|fail)
         go_at_call 182;refine(refwrong_any _ _ _).mono ?_;rintro r w4 ⟨rfl,hb4⟩;have HC4:=hide' (HC3.out.later hb4);clear hb4 HC3 r0 r1 r2 r3 r4 r5 rf hrl k0 k1 k2 k3 k4 k5 kf hCl;obtain⟨_,_,⟨⟨r0,r1,r2,r3,r4,r5⟩,rf⟩,hrl⟩:=HC4.out.cells;unfold wrongV;go_wp2;refine bodyPost_ret (v:= .tuple #[wrongV dataB false,.int .i64 1]) (by simp[results,Tryz.results173,go_sem,wrongV,dataB,r0,r1,r2,r3,r4,r5]) rfl ⟨⟨.slice none 0 0,rfl,.inl ⟨rfl,rfl⟩⟩,(HC4.out.fin _ _ _ _ _ _).1⟩
        |true=>
         simp only at hcm;rw[hcm]at HCM;have hr:RES=some ⟨⟨3,xs,noB,noB,false,0⟩,p,false⟩:=by rw[HRS.out,hcm];rfl
         subst hr;clear HRS hcm hrc;go_wp2_with (first|(go_at_call 139;refine HCM.out.mono ?_;rintro r w3 ⟨rfl,hb3⟩;have HC3:=hide' (HCk.out.later hb3);clear hb3 r0 r1 r2 r3 r4 r5 rf hrl k0 k1 k2 k3 k4 k5 kf hCl;obtain⟨⟨⟨k0,k1,k2,k3,k4,k5⟩,kf⟩,hCl,⟨⟨r0,r1,r2,r3,r4,r5⟩,rf⟩,hrl⟩:=HC3.out.cells;simp only at k0 k1 k2 k3 k4 k5)|fail)
         refine bodyPost_ret (v:= .tuple #[cmdVR ⟨3,xs,noB,noB,false,0⟩ (.slice ka xs.length kc),.int .i64 1]) (by simp[results,Tryz.results173,go_sem,cmdVR,r0,r1,r2,r3,r4,r5]) rfl ⟨⟨_,rfl,(HC3.out.fin _ _ _ _ _ _).2⟩,(HC3.out.fin _ _ _ _ _ _).1⟩
       ·have hx':=eqB (s:=x) [103,101,116] hx;have hx2':=eqB (s:=x) [100,101,108] hx2;by_cases hxs:x=⟨#[115,101,116]⟩
        ·subst hxs;clear hx hx2 hx' hx2';by_cases hn2:n=2
         ·subst hn2;obtain⟨y,z,hyz⟩:∃y z,xs=[y,z]:=by
           have:=HN.out;match xs,this with
           | [y,z],_=>exact⟨y,z,rfl⟩
          subst hyz;have c1:=texts_cell HC.out.2 (i:=1) (x:=y) rfl;have c2:=texts_cell HC.out.2 (i:=2) (x:=z) rfl;have hc3:3≤c:=by omega
          have nc1:¬c=1:=by omega
          have l1:(1:Int)≤2:=by omega
          have l2:(2:Int)≤(c:Int):=by omega
          have l3:2≤c:=by omega
          have l4:(2:Int)<2+1:=by omega
          have HKY:Hid (KeysR wc w.heap.size (.slice (some ⟨g,1,none⟩) 1 (c-1)) [y]):=by
           obtain⟨Z,hZ,_,_,hi⟩:=HC.out.2;exact .inr ⟨g,1,c-1,Z,rfl,by omega,hZ,fun i u hu=>(by
            match i,hu with
            |0,hu=>simp at hu;subst hu;exact hi 1 y rfl),by show 1≤c-1;omega⟩
          clear HKS hk;go_upto_region 33 with fail
          go_cut [12] (fun s12 W=>s12= .pointer (some ⟨C,0,none⟩)∧CmdAt w W C ⟨2,[y],z,noB,false,0⟩ (.slice (some ⟨g,1,none⟩) 1 (c-1)))
          case first=>
           go_big_region
           all_goals go_wp2_with fail
           all_goals go_meet
           all_goals
            case rel=>
             exact⟨rfl,HC.out.1.putD 2 z 0 HKY.out⟩
          case rest=>
           clear c0 c1 c2 hgl k0 k1 k2 k3 k4 k5 kf hCl r0 r1 r2 r3 r4 r5 rf HC HKY hrl;obtain⟨rfl,hC⟩:=hcut;obtain⟨⟨⟨k0,k1,k2,k3,k4,k5⟩,kf⟩,hCl,⟨⟨r0,r1,r2,r3,r4,r5⟩,rf⟩,hrl⟩:=hC.cells;simp only at k0 k1 k2 k3 k4 k5;have HCk:=hide' hC;clear hC;have hrc:refC (⟨#[115,101,116]⟩::[y,z])=⟨2,[y],z,noB,false,0⟩:=by unfold refC;rw[if_pos ⟨rfl,rfl⟩];rfl
           rw[hrc]at HRS;simp only at HRS;have HCM:=hide' (refcmd_any (⟨2,[y],z,noB,false,0⟩:Cmd).kind _ (⟨2,[y],z,noB,false,0⟩:Cmd).keys (⟨2,[y],z,noB,false,0⟩:Cmd).val noB false 0 _ (HCk.out.keys.strs (by simp) (fun u hu=>by simp at hu;rw[hu];exact HXS.out y (by simp))) (HXS.out z (by simp)));unfold cmdV6 at HCM;simp only at HCM;cases hcm:cmdB (⟨2,[y],z,noB,false,0⟩:Cmd).kind (⟨2,[y],z,noB,false,0⟩:Cmd).keys (⟨2,[y],z,noB,false,0⟩:Cmd).val with
           |false=>
            simp only at hcm;rw[hcm]at HCM;have hr:RES=some ⟨wrongC dataB false,p,false⟩:=by rw[HRS.out,hcm];rfl
            subst hr;clear HRS hcm hrc;go_wp2_with (first|(go_at_call 139;refine HCM.out.mono ?_;rintro r w3 ⟨rfl,hb3⟩;have HC3:=hide' (HCk.out.later hb3);clear hb3)|fail)
            go_at_call 182;refine(refwrong_any _ _ _).mono ?_;rintro r w4 ⟨rfl,hb4⟩;have HC4:=hide' (HC3.out.later hb4);clear hb4 HC3 r0 r1 r2 r3 r4 r5 rf hrl k0 k1 k2 k3 k4 k5 kf hCl;obtain⟨_,_,⟨⟨r0,r1,r2,r3,r4,r5⟩,rf⟩,hrl⟩:=HC4.out.cells;unfold wrongV;go_wp2;refine bodyPost_ret (v:= .tuple #[wrongV dataB false,.int .i64 1]) (by simp[results,Tryz.results173,go_sem,wrongV,dataB,r0,r1,r2,r3,r4,r5]) rfl ⟨⟨.slice none 0 0,rfl,.inl ⟨rfl,rfl⟩⟩,(HC4.out.fin _ _ _ _ _ _).1⟩
           |true=>
            simp only at hcm;rw[hcm]at HCM;have hr:RES=some ⟨⟨2,[y],z,noB,false,0⟩,p,false⟩:=by rw[HRS.out,hcm];rfl
            subst hr;clear HRS hcm hrc;go_wp2_with (first|(go_at_call 139;refine HCM.out.mono ?_;rintro r w3 ⟨rfl,hb3⟩;have HC3:=hide' (HCk.out.later hb3);clear hb3 r0 r1 r2 r3 r4 r5 rf hrl k0 k1 k2 k3 k4 k5 kf hCl;obtain⟨⟨⟨k0,k1,k2,k3,k4,k5⟩,kf⟩,hCl,⟨⟨r0,r1,r2,r3,r4,r5⟩,rf⟩,hrl⟩:=HC3.out.cells;simp only at k0 k1 k2 k3 k4 k5)|fail)
            refine bodyPost_ret (v:= .tuple #[cmdVR ⟨2,[y],z,noB,false,0⟩ (.slice (some ⟨g,1,none⟩) 1 (c-1)),.int .i64 1]) (by simp[results,Tryz.results173,go_sem,cmdVR,r0,r1,r2,r3,r4,r5]) rfl ⟨⟨_,rfl,(HC3.out.fin _ _ _ _ _ _).2⟩,(HC3.out.fin _ _ _ _ _ _).1⟩
         ·have hn2':((n:Int)+1==3)=false:=by rw[beq_eq_false_iff_ne];omega
          have HCk:=hide' HC.out.1;have HKd:=hide' hk;clear hk;have hrc:refC (⟨#[115,101,116]⟩::xs)=⟨0,xs,noB,noB,false,0⟩:=by unfold refC;rw[if_neg (fun h=>hn2 (by have h2:xs.length+1=3:=h.2;rw[HN.out]at h2;omega))];show(⟨kindRf ⟨#[115,101,116]⟩,xs,noB,noB,false,0⟩:Cmd)=_;rw[HKd.out]
          rw[hrc]at HRS;simp only at HRS;have HCM:=hide' (refcmd_any (⟨0,xs,noB,noB,false,0⟩:Cmd).kind _ (⟨0,xs,noB,noB,false,0⟩:Cmd).keys (⟨0,xs,noB,noB,false,0⟩:Cmd).val noB false 0 _ (HKS.out _ HCk.out.keys) (by show noB.size≤maxLen;decide));unfold cmdV6 at HCM;simp only at HCM;cases hcm:cmdB (⟨0,xs,noB,noB,false,0⟩:Cmd).kind (⟨0,xs,noB,noB,false,0⟩:Cmd).keys (⟨0,xs,noB,noB,false,0⟩:Cmd).val with
          |false=>
           simp only at hcm;rw[hcm]at HCM;have hr:RES=some ⟨wrongC dataB false,p,false⟩:=by rw[HRS.out,hcm];rfl
           subst hr;clear HRS hcm hrc;go_wp2_with (first|(go_at_call 139;refine HCM.out.mono ?_;rintro r w3 ⟨rfl,hb3⟩;have HC3:=hide' (HCk.out.later hb3);clear hb3)|fail)
           go_at_call 182;refine(refwrong_any _ _ _).mono ?_;rintro r w4 ⟨rfl,hb4⟩;have HC4:=hide' (HC3.out.later hb4);clear hb4 HC3 r0 r1 r2 r3 r4 r5 rf hrl k0 k1 k2 k3 k4 k5 kf hCl;obtain⟨_,_,⟨⟨r0,r1,r2,r3,r4,r5⟩,rf⟩,hrl⟩:=HC4.out.cells;unfold wrongV;go_wp2;refine bodyPost_ret (v:= .tuple #[wrongV dataB false,.int .i64 1]) (by simp[results,Tryz.results173,go_sem,wrongV,dataB,r0,r1,r2,r3,r4,r5]) rfl ⟨⟨.slice none 0 0,rfl,.inl ⟨rfl,rfl⟩⟩,(HC4.out.fin _ _ _ _ _ _).1⟩
          |true=>
           simp only at hcm;rw[hcm]at HCM;have hr:RES=some ⟨⟨0,xs,noB,noB,false,0⟩,p,false⟩:=by rw[HRS.out,hcm];rfl
           subst hr;clear HRS hcm hrc;go_wp2_with (first|(go_at_call 139;refine HCM.out.mono ?_;rintro r w3 ⟨rfl,hb3⟩;have HC3:=hide' (HCk.out.later hb3);clear hb3 r0 r1 r2 r3 r4 r5 rf hrl k0 k1 k2 k3 k4 k5 kf hCl;obtain⟨⟨⟨k0,k1,k2,k3,k4,k5⟩,kf⟩,hCl,⟨⟨r0,r1,r2,r3,r4,r5⟩,rf⟩,hrl⟩:=HC3.out.cells;simp only at k0 k1 k2 k3 k4 k5)|fail)
           refine bodyPost_ret (v:= .tuple #[cmdVR ⟨0,xs,noB,noB,false,0⟩ (.slice ka xs.length kc),.int .i64 1]) (by simp[results,Tryz.results173,go_sem,cmdVR,r0,r1,r2,r3,r4,r5]) rfl ⟨⟨_,rfl,(HC3.out.fin _ _ _ _ _ _).2⟩,(HC3.out.fin _ _ _ _ _ _).1⟩
        ·have hxs':=eqB (s:=x) [115,101,116] hxs;have HCk:=hide' HC.out.1;have HKd:=hide' hk;clear hk;have hrc:refC (x::xs)=⟨0,xs,noB,noB,false,0⟩:=by unfold refC;rw[if_neg (fun h=>hxs h.1)];show(⟨kindRf x,xs,noB,noB,false,0⟩:Cmd)=_;rw[HKd.out]
         rw[hrc]at HRS;simp only at HRS;have HCM:=hide' (refcmd_any (⟨0,xs,noB,noB,false,0⟩:Cmd).kind _ (⟨0,xs,noB,noB,false,0⟩:Cmd).keys (⟨0,xs,noB,noB,false,0⟩:Cmd).val noB false 0 _ (HKS.out _ HCk.out.keys) (by show noB.size≤maxLen;decide));unfold cmdV6 at HCM;simp only at HCM;cases hcm:cmdB (⟨0,xs,noB,noB,false,0⟩:Cmd).kind (⟨0,xs,noB,noB,false,0⟩:Cmd).keys (⟨0,xs,noB,noB,false,0⟩:Cmd).val with
         |false=>
          simp only at hcm;rw[hcm]at HCM;have hr:RES=some ⟨wrongC dataB false,p,false⟩:=by rw[HRS.out,hcm];rfl
          subst hr;clear HRS hcm hrc;go_wp2_with (first|(go_at_call 139;refine HCM.out.mono ?_;rintro r w3 ⟨rfl,hb3⟩;have HC3:=hide' (HCk.out.later hb3);clear hb3)|fail)
          go_at_call 182;refine(refwrong_any _ _ _).mono ?_;rintro r w4 ⟨rfl,hb4⟩;have HC4:=hide' (HC3.out.later hb4);clear hb4 HC3 r0 r1 r2 r3 r4 r5 rf hrl k0 k1 k2 k3 k4 k5 kf hCl;obtain⟨_,_,⟨⟨r0,r1,r2,r3,r4,r5⟩,rf⟩,hrl⟩:=HC4.out.cells;unfold wrongV;go_wp2;refine bodyPost_ret (v:= .tuple #[wrongV dataB false,.int .i64 1]) (by simp[results,Tryz.results173,go_sem,wrongV,dataB,r0,r1,r2,r3,r4,r5]) rfl ⟨⟨.slice none 0 0,rfl,.inl ⟨rfl,rfl⟩⟩,(HC4.out.fin _ _ _ _ _ _).1⟩
         |true=>
          simp only at hcm;rw[hcm]at HCM;have hr:RES=some ⟨⟨0,xs,noB,noB,false,0⟩,p,false⟩:=by rw[HRS.out,hcm];rfl
          subst hr;clear HRS hcm hrc;go_wp2_with (first|(go_at_call 139;refine HCM.out.mono ?_;rintro r w3 ⟨rfl,hb3⟩;have HC3:=hide' (HCk.out.later hb3);clear hb3 r0 r1 r2 r3 r4 r5 rf hrl k0 k1 k2 k3 k4 k5 kf hCl;obtain⟨⟨⟨k0,k1,k2,k3,k4,k5⟩,kf⟩,hCl,⟨⟨r0,r1,r2,r3,r4,r5⟩,rf⟩,hrl⟩:=HC3.out.cells;simp only at k0 k1 k2 k3 k4 k5)|fail)
          refine bodyPost_ret (v:= .tuple #[cmdVR ⟨0,xs,noB,noB,false,0⟩ (.slice ka xs.length kc),.int .i64 1]) (by simp[results,Tryz.results173,go_sem,cmdVR,r0,r1,r2,r3,r4,r5]) rfl ⟨⟨_,rfl,(HC3.out.fin _ _ _ _ _ _).2⟩,(HC3.out.fin _ _ _ _ _ _).1⟩
 ·have hb42:((s[0].toNat:Int)==42)=false:=u8_ne h42;have hb42':((s[0].toNat:Int) != 42)=true:=by simp only[bne,hb42,Bool.not_false]
  obtain⟨u,hR⟩:=HE.out.2 h42;subst hR;clear HE;have hBs:=HB1.out.size;go_wp2_with fail
  refine bodyPost_ret (v:= .tuple #[wrongV formB true,.int .i64 1]) (by simp[results,Tryz.results173,go_sem,wrongV,formB,r0,r1,r2,r3,r4,r5,hRl]) rfl ⟨⟨.slice none 0 0,rfl,.inl ⟨rfl,rfl⟩⟩,?_⟩;repeat(first|with_reducible exact HB1.out|with_reducible refine Below.drew ?_|with_reducible refine Below.alloc ?_ (by first|omega|(simp;try omega)) _|with_reducible refine Below.setCell ?_ (by first|exact Nat.le_refl _|(simp;try omega)) _)
end Go.Proofs.YtlonjggfnleolaaGreatDoor
