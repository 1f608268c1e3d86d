import Derived.Test.YtlonjggfnleolaaGreatDoorWalkG
namespace Go.Proofs.YtlonjggfnleolaaGreatDoor
open Go.RowKit
set_option linter.unusedVariables false
set_option maxHeartbeats 4000000
set_option maxRecDepth 20000
def countL (bs:List UInt8)(least most:Nat)(s:WS)(k:Nat)(first:Bool):Nat×WS:=
 if nxB bs s then(0,s.look bs.length)else countF bs least most (bs.length-s.pos) s.pos k first
def badD (least most:Nat)(b:UInt8)(k:Nat)(first:Bool):Bool:= !digB b || decide (most<k*10+(b.toNat-48)) || (first&&decide (b.toNat-48<least)) || (!first&&decide (k=0))
theorem countL_step (bs:List UInt8)(least most p k:Nat)(first:Bool)(h:p<bs.length):countL bs least most ⟨p,false,false⟩ k first=if(!first&&(bs.getD p 0==10))=true then(k,⟨p+1,false,false⟩)else if badD least most (bs.getD p 0) k first=true then(0,⟨p,true,false⟩)else countL bs least most ⟨p+1,false,false⟩ (k*10+((bs.getD p 0).toNat-48)) false:=by
 have hn:nxB bs ⟨p,false,false⟩=false:=by
  simp only[nxB,WS.look,Bool.false_or,Bool.or_false,decide_eq_false_iff_not];omega
 unfold countL;rw[hn];simp only[Bool.false_eq_true,if_false]
 obtain⟨f,hf⟩:∃f,bs.length-p=f+1:=⟨bs.length-p-1,by omega⟩
 rw[hf];conv=>lhs;unfold countF
 have hbad:(digB (bs.getD p 0)=false∨most<k*10+(byAt bs p-48)∨(first=true∧byAt bs p-48<least)∨(first=false∧k=0))↔badD least most (bs.getD p 0) k first=true:=by
  simp only[badD,Bool.or_eq_true,Bool.and_eq_true,Bool.not_eq_true',decide_eq_true_eq]
  show _↔((_∨most<k*10+(byAt bs p-48))∨(first=true∧byAt bs p-48<least))∨_;constructor
  ·rintro (h|h|h|h)
   ·exact .inl (.inl (.inl h))
   ·exact .inl (.inl (.inr h))
   ·exact .inl (.inr h)
   ·exact .inr h
  ·rintro (((h|h)|h)|h)
   ·exact .inl h
   ·exact .inr (.inl h)
   ·exact .inr (.inr (.inl h))
   ·exact .inr (.inr (.inr h))
 have hten:(first=false∧bs.getD p 0=10)↔(!first&&(bs.getD p 0==10))=true:=by
  simp only[Bool.and_eq_true,Bool.not_eq_true',beq_iff_eq]
 have hrest:countF bs least most f (p+1) (k*10+(byAt bs p-48)) false=(if nxB bs ⟨p+1,false,false⟩=true then(0,WS.look bs.length ⟨p+1,false,false⟩)else countF bs least most (bs.length-(p+1)) (p+1) (k*10+((bs.getD p 0).toNat-48)) false):=by
  by_cases hp:p+1=bs.length
  ·have hn2:nxB bs ⟨p+1,false,false⟩=true:=by simp[nxB,WS.look,hp]
   have hf0:f=0:=by omega
   rw[hn2,hf0,if_pos rfl];simp[countF,WS.look,hp]
  ·have hn2:nxB bs ⟨p+1,false,false⟩=false:=by
    simp only[nxB,WS.look,Bool.false_or,Bool.or_false,decide_eq_false_iff_not];omega
   rw[hn2,if_neg (by simp)];have:bs.length-(p+1)=f:=by omega
   rw[this];rfl
 by_cases h1:first=false∧bs.getD p 0=10
 ·have h1':=hten.1 h1;rw[if_pos h1,if_pos h1']
 ·have h1':=fun h=>h1 (hten.2 h)
  rw[if_neg h1,if_neg h1'];by_cases h2:digB (bs.getD p 0)=false∨most<k*10+(byAt bs p-48)∨(first=true∧byAt bs p-48<least)∨(first=false∧k=0)
  ·have h2':=hbad.1 h2;rw[if_pos h2,if_pos h2']
  ·have h2':=fun h=>h2 (hbad.2 h)
   rw[if_neg h2,if_neg h2'];exact hrest
def wpos (w:World)(B:Nat):Nat:=(intOf ((w.cell? ⟨B,1,none⟩).getD (.int .i64 0))).toNat
theorem WalkG.wpos {w:World}{B:Nat}{a:Option Addr}{n c:Nat}{bs:List UInt8}{s:WS}(h:WalkG w B a n c bs s):wpos w B=s.pos:=by
 unfold YtlonjggfnleolaaGreatDoor.wpos;rw[h.c1];simp[intOf]
theorem countG (w:World)(B:Nat)(a:Option Addr)(n c:Nat)(bs:List UInt8)(s:WS)(least most:Nat)(W:WalkG w B a n c bs s)(hm:most≤40)(hl:least≤1):Calls Tryz.prog 254 #[.pointer (some ⟨B,0,none⟩),.int .i64 (least:Int),.int .i64 (most:Int)] w fun e w'=>e= .returned (.int .i64 ((countW bs least most s).1:Int))∧WalkG w' B a n c bs (countW bs least most s).2∧Only B w w':=by
 have HW:=hide' W;have HR:Hid (countL bs least most s 0 true=countW bs least most s):=(show _=_ from rfl)
 generalize countW bs least most s=R at*;have HL:=hide' W.len;have sm:=W.small;clear W;go_enter Tryz.func254,Tryz.ntmps254;go_wp2;go_loopw [7,8] (fun k f wr=>∃(kk:Nat) (ff:Bool) (s':WS),k= .int .i64 kk∧f= .bool ff∧kk≤40∧Hid (WalkG wr B a n c bs s'∧Only B w wr∧countL bs least most s' kk ff=R)) (fun _ _ wr=>n+1-wpos wr B)
 case atStart=>exact⟨0,true,s,rfl,rfl,by omega,HW.out,Only.refl _ _,HR.out⟩
 case round=>
  obtain⟨kk,ff,s',rfl,rfl,hk,HJ⟩:=hrel;have HX:=hide' (nextG wr B a n c bs s' HJ.out.1);cases hn:nxB bs s' with
  |true=>
   have hR:R=(0,s'.look bs.length):=by rw[←HJ.out.2.2];unfold countL;rw[hn];rfl
   rw[hn]at HX;subst hR;go_wp2_with fail
   go_at_call 258;refine HX.out.mono ?_;rintro e w1 ⟨rfl,W1,O1⟩;have H1:=hide' (And.intro W1 (HJ.out.2.1.trans O1));clear W1 O1 HJ HR;go_wp2;go_ret;exact⟨rfl,H1.out.1,H1.out.2⟩
  |false=>
   obtain⟨hlk,hw,hs,hp⟩:=nxB_false hn;obtain⟨p,wr',sh⟩:=s';simp only at hw hs hp;subst hw;subst hs;have hpl:p<bs.length:=by have h1:=HJ.out.1.pos;have h2:=HL.out;simp only at h1;omega
   have hp0:wpos wr B=p:=HJ.out.1.wpos;have HP:=hide' hp0;clear hp0;have HS:=hide' ((countL_step bs least most p kk ff hpl).symm.trans HJ.out.2.2);rw[hn,hlk]at HX;have hby:byAt bs p=(bs.getD p 0).toNat:=rfl;rw[hby]at HX;have hb256:(bs.getD p 0).toNat<256:=UInt8.toNat_lt _;have hpn:p<n:=by have:=HL.out;omega
   clear hby hn hlk hp hpl;generalize bs.getD p 0=b at*;have wx:IntKind.i64.wrap ((b.toNat:Int))=b.toNat:=wrap_small _ (by omega) (by omega);have go1:∀(P:Prop),P→P:=fun _ h=>h
   clear go1;by_cases c1:(!ff&&(b==10))=true
   ·have e1:ff=false:=by cases ff with|false=>rfl|true=>simp at c1
    have e2:b=10:=by subst e1;simpa using c1
    subst e1;subst e2;have hR:R=(kk,⟨p+1,false,false⟩):=by have:=HS.out;rw[if_pos (by rfl)]at this;exact this.symm
    subst hR;have hb10:((10:UInt8).toNat:Int)=10:=rfl;rw[hb10]at HX;clear hb10 wx hb256 c1;go_wp2_with fail
    go_at_call 258;refine HX.out.mono ?_;rintro e w1 ⟨rfl,W1,O1⟩;have H1:=hide' (And.intro W1 (HJ.out.2.1.trans O1));obtain⟨c0,c1,c2,c3,fr,_,_,_,_,_,_⟩:=W1;simp only at c1 c2 c3;clear O1 HJ HR HS;go_wp2;go_ret;have hO:Only B w1 (w1.setCell ⟨B,1,none⟩ (.int .i64 ((p:Int)+1))):=(Only.refl B w1).setCell rfl _;exact⟨rfl,H1.out.1.kept hO (by go_simp) (by go_simp) (by go_simp) (by go_simp) (fun j=>by go_simp) (by show p+1≤n;omega),H1.out.2.trans hO⟩
   cases ff with
   |true=>
    by_cases t1:(b.toNat:Int)-48<0
    ·have hd:digB b=false:=by simp only[digB,Bool.and_eq_false_iff,decide_eq_false_iff_not];omega
     have hR:R=(0,⟨p,true,false⟩):=by
      have:=HS.out;rw[if_neg c1,if_pos (by simp[badD,hd])]at this;exact this.symm
     subst hR;go_wp2_with fail
     go_at_call 258;refine HX.out.mono ?_;rintro e w1 ⟨rfl,W1,O1⟩;have H1:=hide' (And.intro W1 (HJ.out.2.1.trans O1));obtain⟨c0,cc1,c2,c3,fr,_,_,_,_,_,_⟩:=W1;simp only at cc1 c2 c3;clear O1 HJ HR HS c1;go_wp2;go_ret;have hO:Only B w1 (w1.setCell ⟨B,2,none⟩ (.bool true)):=(Only.refl B w1).setCell rfl _;exact⟨rfl,H1.out.1.kept hO (by go_simp) (by go_simp) (by go_simp) (by go_simp) (fun j=>by go_simp) (by show p≤n;omega),H1.out.2.trans hO⟩
    by_cases t2:9<(b.toNat:Int)-48
    ·have hd:digB b=false:=by simp only[digB,Bool.and_eq_false_iff,decide_eq_false_iff_not];omega
     have hR:R=(0,⟨p,true,false⟩):=by
      have:=HS.out;rw[if_neg c1,if_pos (by simp[badD,hd])]at this;exact this.symm
     subst hR;go_wp2_with fail
     go_at_call 258;refine HX.out.mono ?_;rintro e w1 ⟨rfl,W1,O1⟩;have H1:=hide' (And.intro W1 (HJ.out.2.1.trans O1));obtain⟨c0,cc1,c2,c3,fr,_,_,_,_,_,_⟩:=W1;simp only at cc1 c2 c3;clear O1 HJ HR HS c1;go_wp2;go_ret;have hO:Only B w1 (w1.setCell ⟨B,2,none⟩ (.bool true)):=(Only.refl B w1).setCell rfl _;exact⟨rfl,H1.out.1.kept hO (by go_simp) (by go_simp) (by go_simp) (by go_simp) (fun j=>by go_simp) (by show p≤n;omega),H1.out.2.trans hO⟩
    have hd:digB b=true:=by simp only[digB,Bool.and_eq_true,decide_eq_true_eq];omega
    by_cases t3:(most:Int)<(kk:Int)*10+((b.toNat:Int)-48)
    ·have h3:most<kk*10+(b.toNat-48):=by omega
     have hR:R=(0,⟨p,true,false⟩):=by
      have:=HS.out;rw[if_neg c1,if_pos (by simp[badD,h3])]at this;exact this.symm
     subst hR;go_wp2_with fail
     go_at_call 258;refine HX.out.mono ?_;rintro e w1 ⟨rfl,W1,O1⟩;have H1:=hide' (And.intro W1 (HJ.out.2.1.trans O1));obtain⟨c0,cc1,c2,c3,fr,_,_,_,_,_,_⟩:=W1;simp only at cc1 c2 c3;clear O1 HJ HR HS c1;go_wp2;go_ret;have hO:Only B w1 (w1.setCell ⟨B,2,none⟩ (.bool true)):=(Only.refl B w1).setCell rfl _;exact⟨rfl,H1.out.1.kept hO (by go_simp) (by go_simp) (by go_simp) (by go_simp) (fun j=>by go_simp) (by show p≤n;omega),H1.out.2.trans hO⟩
    have h3:¬most<kk*10+(b.toNat-48):=by omega
    by_cases t4:(b.toNat:Int)-48<(least:Int)
    ·have h4:b.toNat-48<least:=by omega
     have hR:R=(0,⟨p,true,false⟩):=by
      have:=HS.out;rw[if_neg c1,if_pos (by simp[badD,h4])]at this;exact this.symm
     subst hR;go_wp2_with fail
     go_at_call 258;refine HX.out.mono ?_;rintro e w1 ⟨rfl,W1,O1⟩;have H1:=hide' (And.intro W1 (HJ.out.2.1.trans O1));obtain⟨c0,cc1,c2,c3,fr,_,_,_,_,_,_⟩:=W1;simp only at cc1 c2 c3;clear O1 HJ HR HS c1;go_wp2;go_ret;have hO:Only B w1 (w1.setCell ⟨B,2,none⟩ (.bool true)):=(Only.refl B w1).setCell rfl _;exact⟨rfl,H1.out.1.kept hO (by go_simp) (by go_simp) (by go_simp) (by go_simp) (fun j=>by go_simp) (by show p≤n;omega),H1.out.2.trans hO⟩
    have h4:¬b.toNat-48<least:=by omega
    have hbad:¬badD least most b kk true=true:=by simp[badD,hd,h3,h4]
    have HG:Hid (countL bs least most ⟨p+1,false,false⟩ (kk*10+(b.toNat-48)) false=R):=by
     show _=_;have:=HS.out;rw[if_neg c1,if_neg hbad]at this;exact this
    go_wp2_with fail
    go_at_call 258;refine HX.out.mono ?_;rintro e w1 ⟨rfl,W1,O1⟩;have H1:=hide' (And.intro W1 (HJ.out.2.1.trans O1));obtain⟨c0,cc1,c2,c3,fr,_,_,_,_,_,_⟩:=W1;simp only at cc1 c2 c3;clear O1 HJ HR HS c1 hbad;go_wp2;have hO:Only B w1 (w1.setCell ⟨B,1,none⟩ (.int .i64 ((p:Int)+1))):=(Only.refl B w1).setCell rfl _;have W2:WalkG (w1.setCell ⟨B,1,none⟩ (.int .i64 ((p:Int)+1))) B a n c bs ⟨p+1,false,false⟩:=H1.out.1.kept hO (by go_simp) (by go_simp) (by go_simp) (by go_simp) (fun j=>by go_simp) (by show p+1≤n;omega);go_roundw;case rel=>exact⟨kk*10+(b.toNat-48),false,⟨p+1,false,false⟩,by congr 1;omega,rfl,by omega,W2,H1.out.2.trans hO,HG.out⟩
    case measure=>rw[HP.out,W2.wpos];show _-(p+1)<_;omega
   |false=>
    have b10:((b.toNat:Int)==10)=false:=by
     rw[beq_eq_false_iff_ne];intro h;apply c1;have:b=10:=by apply UInt8.toNat_inj.1;show b.toNat=10;omega
     rw[this];rfl
    by_cases t1:(b.toNat:Int)-48<0
    ·have hd:digB b=false:=by simp only[digB,Bool.and_eq_false_iff,decide_eq_false_iff_not];omega
     have hR:R=(0,⟨p,true,false⟩):=by
      have:=HS.out;rw[if_neg c1,if_pos (by simp[badD,hd])]at this;exact this.symm
     subst hR;go_wp2_with fail
     go_at_call 258;refine HX.out.mono ?_;rintro e w1 ⟨rfl,W1,O1⟩;have H1:=hide' (And.intro W1 (HJ.out.2.1.trans O1));obtain⟨c0,cc1,c2,c3,fr,_,_,_,_,_,_⟩:=W1;simp only at cc1 c2 c3;clear O1 HJ HR HS c1;go_wp2;go_ret;have hO:Only B w1 (w1.setCell ⟨B,2,none⟩ (.bool true)):=(Only.refl B w1).setCell rfl _;exact⟨rfl,H1.out.1.kept hO (by go_simp) (by go_simp) (by go_simp) (by go_simp) (fun j=>by go_simp) (by show p≤n;omega),H1.out.2.trans hO⟩
    by_cases t2:9<(b.toNat:Int)-48
    ·have hd:digB b=false:=by simp only[digB,Bool.and_eq_false_iff,decide_eq_false_iff_not];omega
     have hR:R=(0,⟨p,true,false⟩):=by
      have:=HS.out;rw[if_neg c1,if_pos (by simp[badD,hd])]at this;exact this.symm
     subst hR;go_wp2_with fail
     go_at_call 258;refine HX.out.mono ?_;rintro e w1 ⟨rfl,W1,O1⟩;have H1:=hide' (And.intro W1 (HJ.out.2.1.trans O1));obtain⟨c0,cc1,c2,c3,fr,_,_,_,_,_,_⟩:=W1;simp only at cc1 c2 c3;clear O1 HJ HR HS c1;go_wp2;go_ret;have hO:Only B w1 (w1.setCell ⟨B,2,none⟩ (.bool true)):=(Only.refl B w1).setCell rfl _;exact⟨rfl,H1.out.1.kept hO (by go_simp) (by go_simp) (by go_simp) (by go_simp) (fun j=>by go_simp) (by show p≤n;omega),H1.out.2.trans hO⟩
    have hd:digB b=true:=by simp only[digB,Bool.and_eq_true,decide_eq_true_eq];omega
    by_cases t3:(most:Int)<(kk:Int)*10+((b.toNat:Int)-48)
    ·have h3:most<kk*10+(b.toNat-48):=by omega
     have hR:R=(0,⟨p,true,false⟩):=by
      have:=HS.out;rw[if_neg c1,if_pos (by simp[badD,h3])]at this;exact this.symm
     subst hR;go_wp2_with fail
     go_at_call 258;refine HX.out.mono ?_;rintro e w1 ⟨rfl,W1,O1⟩;have H1:=hide' (And.intro W1 (HJ.out.2.1.trans O1));obtain⟨c0,cc1,c2,c3,fr,_,_,_,_,_,_⟩:=W1;simp only at cc1 c2 c3;clear O1 HJ HR HS c1;go_wp2;go_ret;have hO:Only B w1 (w1.setCell ⟨B,2,none⟩ (.bool true)):=(Only.refl B w1).setCell rfl _;exact⟨rfl,H1.out.1.kept hO (by go_simp) (by go_simp) (by go_simp) (by go_simp) (fun j=>by go_simp) (by show p≤n;omega),H1.out.2.trans hO⟩
    have h3:¬most<kk*10+(b.toNat-48):=by omega
    by_cases t4:kk=0
    ·have t5:((kk:Int)==0)=true:=by simp[t4]
     have h5:badD least most b kk false=true:=by simp[badD,t4]
     clear t4;have hR:R=(0,⟨p,true,false⟩):=by
      have:=HS.out;rw[if_neg c1,if_pos (h5)]at this;exact this.symm
     subst hR;go_wp2_with fail
     go_at_call 258;refine HX.out.mono ?_;rintro e w1 ⟨rfl,W1,O1⟩;have H1:=hide' (And.intro W1 (HJ.out.2.1.trans O1));obtain⟨c0,cc1,c2,c3,fr,_,_,_,_,_,_⟩:=W1;simp only at cc1 c2 c3;clear O1 HJ HR HS c1 h5;go_wp2;go_ret;have hO:Only B w1 (w1.setCell ⟨B,2,none⟩ (.bool true)):=(Only.refl B w1).setCell rfl _;exact⟨rfl,H1.out.1.kept hO (by go_simp) (by go_simp) (by go_simp) (by go_simp) (fun j=>by go_simp) (by show p≤n;omega),H1.out.2.trans hO⟩
    have t5:((kk:Int)==0)=false:=by rw[beq_eq_false_iff_ne];omega
    have hbad:¬badD least most b kk false=true:=by simp[badD,hd,h3,t4]
    clear t4;have HG:Hid (countL bs least most ⟨p+1,false,false⟩ (kk*10+(b.toNat-48)) false=R):=by
     show _=_;have:=HS.out;rw[if_neg c1,if_neg hbad]at this;exact this
    go_wp2_with fail
    go_at_call 258;refine HX.out.mono ?_;rintro e w1 ⟨rfl,W1,O1⟩;have H1:=hide' (And.intro W1 (HJ.out.2.1.trans O1));obtain⟨c0,cc1,c2,c3,fr,_,_,_,_,_,_⟩:=W1;simp only at cc1 c2 c3;clear O1 HJ HR HS c1 hbad;go_wp2;have hO:Only B w1 (w1.setCell ⟨B,1,none⟩ (.int .i64 ((p:Int)+1))):=(Only.refl B w1).setCell rfl _;have W2:WalkG (w1.setCell ⟨B,1,none⟩ (.int .i64 ((p:Int)+1))) B a n c bs ⟨p+1,false,false⟩:=H1.out.1.kept hO (by go_simp) (by go_simp) (by go_simp) (by go_simp) (fun j=>by go_simp) (by show p+1≤n;omega);go_roundw;case rel=>exact⟨kk*10+(b.toNat-48),false,⟨p+1,false,false⟩,by congr 1;omega,rfl,by omega,W2,H1.out.2.trans hO,HG.out⟩
    case measure=>rw[HP.out,W2.wpos];show _-(p+1)<_;omega
end Go.Proofs.YtlonjggfnleolaaGreatDoor
