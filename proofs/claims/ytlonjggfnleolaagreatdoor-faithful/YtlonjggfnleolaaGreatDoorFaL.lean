import Derived.Test.YtlonjggfnleolaaGreatDoorFaK
namespace Go.Proofs.YtlonjggfnleolaaGreatDoor
open Go.RowKit Go.Shelf
set_option linter.unusedVariables false
set_option maxHeartbeats 20000000
set_option maxRecDepth 100000
variable {c:Nat}
section
variable {gs:List Int}{w W W':World}{P X sv pt win:Nat}{css:List (List Cmd)}{sd:List Nat}{st:List CliQ×List SrvQ}{D:PlD}{L:Nat→List En}{A:Nat→Nat}{Cl:Nat→Nat→Prop}
theorem FaTo.bel (h:FaTo gs w W P X sv pt win css):Below w.heap.size w W:=by
 obtain⟨_,_,_,_,_,_,h,_⟩:=h;exact h.pb.pl.bel
theorem FaTo.p4 (h:FaTo gs w W P X sv pt win css):∃a c,W.cell? ⟨P,4,none⟩=some (.slice a css.length c)∧P<W.heap.size:=by
 obtain⟨_,_,_,_,_,_,h,_⟩:=h;obtain⟨p,a,c,e,_⟩:=h.pb.p4;rw[e]at p;exact⟨a,c,p,blkLt h.pb.pl.blk⟩
theorem FaTo.asked (h:FaTo gs w W P X sv pt win css)(hc:c<css.length):W.cell? ⟨P,0,none⟩=some (.pointer (some ⟨X,0,none⟩))∧P<W.heap.size∧∃T:ByteArray,(mkB (wantI gs css c)).size≤40000∧begB (mkB (wantI gs css c)) T=true∧Calls Tryz.prog 26 #[.pointer (some ⟨X,0,none⟩),.int .i64 (c:Int)] W fun e w'=>e= .returned (.tuple #[.string T,.int .i64 0])∧FaTo gs w w' P X sv pt win css∧∃g cc,w'.cell? ⟨P,4,none⟩=some (.slice (some ⟨g,0,none⟩) css.length cc)∧P<w'.heap.size∧g<w'.heap.size∧w'.cell? ⟨g,c,none⟩=some (.string (mkB (wantI gs css c))):=by
 obtain⟨sd,st,D,L,A,Cl,h,hds⟩:=h;obtain⟨s,hs⟩:=h.pb.cliQ hc;obtain⟨p0,_,_,_,_,pl⟩:=h.pb.pl.pc;refine⟨p0,pl,mkB s.told,by rw[mk_size];exact want_size h.pb.said c,h.begins hs,?_⟩;refine(h.pb.pl.callTold hs).mono ?_;rintro e w' ⟨rfl,k⟩;have h':=h.to k;obtain⟨g,cc,ev,gl,gc⟩:=h'.pb.want hc;obtain⟨p4,_⟩:=h'.pb.p4;rw[ev]at p4;exact⟨rfl,⟨_,_,_,_,_,_,h',hds⟩,g,cc,p4,blkLt h'.pb.pl.blk,gl,gc⟩
def EnAt (gs:List Int)(w W:World)(P X sv pt win:Nat)(css:List (List Cmd))(sd:List Nat)(D:PlD)(c:Nat):Prop:=∃st L A Cl,FaSt gs w W P X sv pt win css (sdTo gs css sd c) st D L A Cl
theorem DrTo.told (h:DrTo gs w W P X sv pt win css sd)(hw:1≤win)(hc:c<css.length)(hr:restOf gs css sd c=[]):W.cell? ⟨P,0,none⟩=some (.pointer (some ⟨X,0,none⟩))∧P<W.heap.size∧Calls Tryz.prog 26 #[.pointer (some ⟨X,0,none⟩),.int .i64 (c:Int)] W fun e w'=>e= .returned (.tuple #[.string (mkB (wantI gs css c)),.int .i64 0])∧DrTo gs w w' P X sv pt win css sd∧∃g cc,w'.cell? ⟨P,4,none⟩=some (.slice (some ⟨g,0,none⟩) css.length cc)∧P<w'.heap.size∧g<w'.heap.size∧w'.cell? ⟨g,c,none⟩=some (.string (mkB (wantI gs css c))):=by
 obtain⟨st,D,L,A,Cl,h,hcl⟩:=h;obtain⟨s,hs⟩:=h.pb.cliQ hc;obtain⟨p0,_,_,_,_,pl⟩:=h.pb.pl.pc;have ht:s.told=(alRun (dOf gs c) 0 ((csOf css c).take (csOf css c).length) ([],[])).1:=h.ji.allTold (plyF_ok h.pb.said) hcl hw hs hr;rw[List.take_length]at ht;refine⟨p0,pl,(h.pb.pl.callTold hs).mono ?_⟩;rintro e w' ⟨rfl,k⟩;have h':=h.to k;obtain⟨g,cc,ev,gl,gc⟩:=h'.pb.want hc;obtain⟨p4,_⟩:=h'.pb.p4;rw[ev]at p4;exact⟨by rw[ht];rfl,⟨_,_,_,_,_,h',hcl⟩,g,cc,p4,blkLt h'.pb.pl.blk,gl,gc⟩
end
theorem faithful_any (ga:Option Addr)(gn gc:Nat)(gs:List Int)(la:Option Addr)(ln lc:Nat)(ls:List (List Int))(sa:Option Addr)(sn sc:Nat)(w:World)(hg:RawIn w ga gn gc gs)(hl:LisIn w la ln lc ls)(hs:StepsIn w sa sn sc):Calls Tryz.prog 11 #[.slice ga gn gc,.slice la ln lc,.slice sa sn sc] w fun e w'=>e= .returned (.bool true)∧Below w.heap.size w w':=by
 have HBg:=hide' (begun_any ga gn gc gs la ln lc ls w hg hl);have HSi:=hide' hs;have hsn:=hs.small;have hsc:=hs.cap;clear hg hl hs;generalize hsv:1+pickN (rawN gs 0) 4=sv at*;generalize hpt:1+pickN (rawN gs 1) 16=pt at*;generalize hwi:1+pickN (rawN gs 2) 6=win at*;have hw1:1≤win:=by omega
 clear hsv hpt hwi;go_enter Tryz.func11,Tryz.ntmps11;go_wp2_with fail
 go_at_call 24;refine HBg.out.mono ?_;rintro e w1 ⟨P,X,css,D0,rfl,hb,hcl⟩;have hc4:css.length≤4:=by omega
 have HS0:Hid (FaTo gs w w1 P X sv pt win css):=⟨_,_,_,_,_,_,FaSt.start hb hc4,hb.sd⟩
 clear hb HBg D0 hcl;go_wp2_with fail
 go_loopw [8,9,10,11,12] (fun i _ _ _ _ wr=>∃j:Nat,i= .int .i64 (j:Int)∧j≤sn∧Hid (FaTo gs w wr P X sv pt win css)) (fun i _ _ _ _ _=>sn-(intOf i).toNat)
 case atStart=>exact⟨0,rfl,Nat.zero_le _,HS0⟩
 case round=>
  obtain⟨j,rfl,hj,HS⟩:=hrel;clear HS0;by_cases hgo:j<sn
  ·as_aux_lemma=>
    have hjs':(j:Int)<(sn:Int):=by omega
    obtain⟨kd,hK⟩:=HSi.out.kind hgo
    obtain⟨sg,so,x,y,hsa,hxw,hyw,hZ⟩:=hK.at_
    subst hsa
    have HZ:=hide' hZ
    clear hK hZ
    obtain⟨zl,z0,z1,z2⟩:=HZ.out _ HS.out.bel
    have HSt:=hide' (step_fa HS.out kd x y hxw hyw)
    clear HS
    go_wp2_with fail
    go_at_call 25
    refine HSt.out.mono ?_
    rintro e w2 ⟨rfl,h2⟩
    have HS2:=hide' h2
    clear h2 HSt zl z0 z1 z2
    obtain⟨zl,z0,z1,z2⟩:=HZ.out _ HS2.out.bel
    have HPk:=hide' (fun W=>pick_big x 4 W hxw (by omega) (by omega))
    have hc:=pickN_lt x 4 (by omega)
    generalize pickN x 4=c at*
    go_wp2_with fail
    go_at_call 17
    refine(HPk.out _).mono ?_
    rintro e w3 ⟨rfl,hw3⟩
    subst hw3
    go_upto_region 11 with fail
    generalize w3=W3 at*
    obtain⟨a4,c4,p4,pl⟩:=HS2.out.p4
    go_cut [59] (fun s W'=>Hid (∃b:Bool,s= .bool b∧(b=true→c<css.length))∧W3=W')
    case first=>
     as_aux_lemma=>
      by_cases hcl:c<css.length
      ·have hcl':(c:Int)<(css.length:Int):=by omega
       go_wp2_with fail
       go_meet
       case rel=>exact⟨⟨_,rfl,fun _=>hcl⟩,rfl⟩
      ·have hcl':¬(c:Int)<(css.length:Int):=by omega
       go_wp2_with fail
       go_meet
       case rel=>exact⟨⟨_,rfl,fun h=>(by cases h)⟩,rfl⟩
    case rest=>
     as_aux_lemma=>
      obtain⟨hb,hwc⟩:=hcut
      subst hwc
      go_wp2_with fail
      obtain⟨b,rfl,hb2⟩:=hb.out
      cases b with
      |false=>
       go_wp2_with fail
       go_roundw;case rel=>exact⟨j+1,by go_num,by omega,HS2⟩
       case measure=>simp[intOf];omega
      |true=>
       have hcl:=hb2 rfl;have hcl':(c:Int)<(css.length:Int):=by omega
       obtain⟨p0,pl0,T,hwz,hbg,hT⟩:=HS2.out.asked hcl;have HT:=hide' hT;have HBe:=hide' (fun W=>kbegins_any (mkB (wantI gs css c)) T W (by omega));have HBg:=hide' hbg;clear hT hbg hb hb2 p4 HZ zl z0 z1 z2 HS2;generalize mkB (wantI gs css c)=Wt at*;rw[HBg.out]at HBe;go_wp2_with fail
       go_at_call 26;refine HT.out.mono ?_;rintro e w4 ⟨rfl,h4,g,cc,r4,rl,gl,gcel⟩;have HS4:=hide' h4;clear h4 HT p0 pl0 pl;go_wp2_with fail
       go_at_call 27;refine(HBe.out _).mono ?_;rintro e w5 ⟨rfl,hw5⟩;subst hw5;go_wp2_with fail
       go_roundw;case rel=>exact⟨j+1,by go_num,by omega,HS4⟩
       case measure=>simp[intOf];omega
  ·have hjs':¬(j:Int)<(sn:Int):=by omega
   clear hj hgo HSi hsn hsc;obtain⟨sd,st0,D,L0,A0,Cl0,h0,hds⟩:=HS.out;obtain⟨a1,c1,a2,c2,a3,c3,e1,f1,e2,f2,e3,f3⟩:=h0.pb.forms (by rw[hds];exact h0.pb.lsd);have HE:=hide' (And.intro e2 e3);have HDS:=hide' (And.intro hds (And.intro h0.pb.lsd h0.pb.sle));have HEn:Hid (EnAt gs w wr P X sv pt win css sd D 0):=⟨st0,L0,A0,Cl0,by rw[sdTo_zero];exact h0⟩
   clear h0 hds e1 e2 e3 HS;go_wp2_with fail
   go_loopw [13,14] (fun i _ wr=>∃c:Nat,i= .int .i64 (c:Int)∧c≤css.length∧Hid (EnAt gs w wr P X sv pt win css sd D c)) (fun i _ _=>css.length-(intOf i).toNat)
   case atStart=>exact⟨0,rfl,Nat.zero_le _,HEn⟩
   case round=>
    obtain⟨c,rfl,hc,HC⟩:=hrel;clear HEn;obtain⟨st,L,A,Cl,hP⟩:=HC.out;obtain⟨p0,_,p2,p3,_,pl⟩:=hP.pb.pl.pc;rw[HE.out.1]at p2;rw[HE.out.2]at p3;by_cases hlt:c<css.length
    ·as_aux_lemma=>
      have hlt':(c:Int)<(css.length:Int):=by omega
      obtain⟨n,hn⟩:∃n,sd[c]?=some n:=⟨_,List.getElem?_eq_getElem (by rw[HDS.out.2.1];exact hlt)⟩
      have hnle:=HDS.out.2.2 c n hn
      obtain⟨g2,c2',ev2,hg2l,hg2c⟩:=hP.pb.cli hlt
      rw[HE.out.1]at ev2
      cases ev2
      have hdl:D.sd.length=css.length:=by rw[HDS.out.1];exact HDS.out.2.1
      have hdn:D.sd[c]?=some n:=by rw[HDS.out.1];exact hn
      obtain⟨g3,c3',ev3,hg3l,hg3c⟩:=hP.pb.sdAt hdl hdn
      rw[HE.out.2]at ev3
      cases ev3
      have htl:=hP.pb.said.size' c
      have hsum:=hP.pb.sum
      have hTs:(mkB (txI gs css c)).size=(txI gs css c).length:=mk_size _
      obtain⟨s0,hs0⟩:=hP.pb.cliQ hlt
      have hex:(mkB (txI gs css c)).extract n (mkB (txI gs css c)).size=mkB ((txI gs css c).drop n):=mk_drop _ _
      have hxl:((mkB (txI gs css c)).extract n (mkB (txI gs css c)).size).size=((txI gs css c).drop n).length:=by rw[hex,mk_size]
      have hxd:((mkB (txI gs css c)).extract n (mkB (txI gs css c)).size).data.toList=(txI gs css c).drop n:=by rw[hex];simp[mkB]
      have hdd:((txI gs css c).drop n).length≤15000:=by rw[List.length_drop];omega
      have HSy:=hide' (PlayV.callSay (hP.below (Below.refl _ _).drew).pb.pl hs0 ((mkB (txI gs css c)).extract n (mkB (txI gs css c)).size) (by omega))
      have HN:Hid (∀W',PlayV w W' P X sv pt win (4000*(sdTo gs css sd c).sum+4000*((mkB (txI gs css c)).extract n (mkB (txI gs css c)).size).size) (saidJ sv pt win c ((mkB (txI gs css c)).extract n (mkB (txI gs css c)).size).data.toList st) D→EnAt gs w W' P X sv pt win css sd D (c+1)∧(W'.cell? ⟨P,0,none⟩=some (.pointer (some ⟨X,0,none⟩))∧W'.cell? ⟨P,2,none⟩=some (.slice (some ⟨g2,0,none⟩) css.length c2)∧W'.cell? ⟨P,3,none⟩=some (.slice (some ⟨g3,0,none⟩) css.length c3)∧W'.cell? ⟨g2,c,none⟩=some (.string (mkB (txI gs css c)))∧W'.cell? ⟨g3,c,none⟩=some (.int .i64 (n:Int)))):=fun W' k=>by
       rw[hxl,hxd]at k;have hr:restOf gs css (sdTo gs css sd c) c=(txI gs css c).drop n++[]:=by
        unfold restOf;rw[sdTo_get hn,List.append_nil];rfl
       obtain⟨L',A',k2⟩:=hP.said (sdTo_get hn) hr k rfl rfl rfl rfl;rw[List.length_drop,show n+((txI gs css c).length-n)=(txI gs css c).length by omega,sdTo_succ (by rw[HDS.out.2.1];exact hlt)]at k2;obtain⟨q0,_,q2,q3,_,_⟩:=k2.pb.pl.pc;rw[HE.out.1]at q2;rw[HE.out.2]at q3;obtain⟨_,_,ev2,_,k22⟩:=k2.pb.cli hlt;rw[HE.out.1]at ev2;cases ev2;obtain⟨_,_,ev3,_,k33⟩:=k2.pb.sdAt hdl hdn;rw[HE.out.2]at ev3;cases ev3;exact⟨⟨_,L',A',_,k2⟩,q0,q2,q3,k22,k33⟩
      have hnT:(n:Int)≤((mkB (txI gs css c)).size:Int):=by omega
      have hnT2:n≤(mkB (txI gs css c)).size:=by omega
      have hTb:(mkB (txI gs css c)).size≤15000:=by omega
      clear hP hs0 hex hxl hxd hdd hTs htl hnle hdl hdn hn hsum HC
      generalize mkB (txI gs css c)=T at*
      go_wp2_with fail
      go_region_held3 (fun W'=>W'.cell? ⟨P,0,none⟩=some (.pointer (some ⟨X,0,none⟩))∧W'.cell? ⟨P,2,none⟩=some (.slice (some ⟨g2,0,none⟩) css.length c2)∧W'.cell? ⟨P,3,none⟩=some (.slice (some ⟨g3,0,none⟩) css.length c3)∧W'.cell? ⟨g2,c,none⟩=some (.string T)∧W'.cell? ⟨g3,c,none⟩=some (.int .i64 (n:Int))) (go_keep) (first
       |(go_at_call 28;refine HSy.out.mono ?_;rintro e w5 ⟨rfl,h5⟩;have h6:=HN.out w5 h5;have HP5:=hide' h6.1;have x0:=h6.2.1;have x1:=h6.2.2.1;have x2:=h6.2.2.2.1;have x3:=h6.2.2.2.2.1;have x4:=h6.2.2.2.2.2;clear h5 h6)
       |fail)
      rename_i hHeld
      clear hHeld x0 x1 x2 x3 x4 p0 p2 p3 pl HSy HN hg2c hg3c
      go_wp2_with fail
      go_roundw
      case rel=>exact⟨c+1,by go_num,by omega,HP5⟩
      case measure=>simp[intOf];omega
    ·have hlt':¬(c:Int)<(css.length:Int):=by omega
     have hcl:c=css.length:=by omega
     subst hcl;have HDr:=hide' (drains_any hP);have HRe:Hid (∀i,i<css.length→restOf gs css (sdTo gs css sd css.length) i=[]):=fun i hi=>sdTo_rest HDS.out.2.1 hi
     clear hP HC HDS HE;generalize sdTo gs css sd css.length=SD at*;go_wp2_with fail
     go_at_call 29;refine HDr.out.mono ?_;rintro e w6 ⟨rfl,h6⟩;have HD6:=hide' h6;clear h6 HDr p0 p2 p3 pl;go_wp2_with fail
     go_loopw [16,17,18] (fun i _ _ wr=>∃c:Nat,i= .int .i64 (c:Int)∧c≤css.length∧Hid (DrTo gs w wr P X sv pt win css SD)) (fun i _ _ _=>css.length-(intOf i).toNat)
     case atStart=>exact⟨0,rfl,Nat.zero_le _,HD6⟩
     case round=>
      as_aux_lemma=>
       obtain⟨c,rfl,hc2,HD7⟩:=hrel
       clear HD6
       have hp4:∃a cc,wr.cell? ⟨P,4,none⟩=some (.slice a css.length cc)∧P<wr.heap.size∧Below w.heap.size w wr:=by
        obtain⟨st,D,L,A,Cl,h,_⟩:=HD7.out;obtain⟨p,a,cc,e,_⟩:=h.pb.p4;rw[e]at p;exact⟨a,cc,p,blkLt h.pb.pl.blk,h.pb.pl.bel⟩
       obtain⟨a4,c4,p4,pl,hbel⟩:=hp4
       have HB:=hide' hbel
       clear hbel
       by_cases hlt2:c<css.length
       ·have hlt2':(c:Int)<(css.length:Int):=by omega
        obtain⟨p0,pl0,hT⟩:=HD7.out.told hw1 hlt2 (HRe.out c hlt2);have HT:=hide' hT;clear hT HD7;generalize mkB (wantI gs css c)=Wt at*;go_wp2_with fail
        go_at_call 26;refine HT.out.mono ?_;rintro e w7 ⟨rfl,h7,g,cc,r4,rl,gl,gcel⟩;have HD8:=hide' h7;clear h7 HT p0 pl0 p4 pl;go_wp2_with fail
        go_roundw;case rel=>exact⟨c+1,by go_num,by omega,HD8⟩
        case measure=>simp[intOf];omega
       ·have hlt2':¬(c:Int)<(css.length:Int):=by omega
        clear HD7;go_wp2_with fail
        go_ret;exact⟨rfl,HB.out⟩
end Go.Proofs.YtlonjggfnleolaaGreatDoor
