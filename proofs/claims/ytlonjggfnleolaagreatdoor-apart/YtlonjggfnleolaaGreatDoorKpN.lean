import Derived.Test.YtlonjggfnleolaaGreatDoorKpM
namespace Go.Proofs.YtlonjggfnleolaaGreatDoor
open Go.RowKit Go.Shelf
set_option linter.unusedVariables false
set_option maxHeartbeats 4000000
set_option maxRecDepth 20000
theorem PlayV.rowAt {w0 W:World}{P X sv pt win T:Nat}{st:List CliQ×List SrvQ}{D:PlD}(h:PlayV w0 W P X sv pt win T st D){i n:Nat}{r:Rw}(hr:D.rows[i]?=some r)(hn:r.xs.length=n):∃a c,r.v= .slice a n c∧n≤c∧∀O,(W.alloc O).ownsRow 0 r.e 1 (.slice a n c) n r.xs:=by
 have h1:=h.row hr;rw[hn]at h1;obtain⟨a,c,e1,e2,_⟩:=row_sl h1;refine⟨a,c,e1,e2,fun O=>?_⟩;rw[←e1];exact World.ownsRow.alloc h1 O
theorem config_pl {p0 p1 p2:Nat}(h0:p0<4)(h1:p1<16)(h2:p2<6):configB ((1+p0:Nat):Int) ((1+p1:Nat):Int) ((1+p2:Nat):Int)=true:=by
 simp only[configB,ringB,withinB,Bool.and_eq_true,decide_eq_true_eq]
 omega
def Bg1 (w W:World)(P X sv pt win:Nat)(j:Nat):Prop:=∃S byt v1 v6,PlayV w W P X sv pt win 0 ([],List.replicate sv ⟨true,0,[],[]⟩) (newD S byt v1 v6)∧S.length=j∧(∀s∈S,∃b,s=newSv b)∧byt=List.replicate j noB
structure Bg2 (gs:List Int)(w W:World)(P X sv pt win:Nat)(css:List (List Cmd))(D:PlD):Prop where
 pl:PlayV w W P X sv pt win 0 (cliOf gs css,List.replicate sv ⟨true,0,[],[]⟩) D
 said:Saids gs css
 lS:D.S.length=sv
 nS:∀s∈D.S,∃b,s=newSv b
 txt:D.txt=txtOf gs css
 sd:D.sd=List.replicate css.length 0
 wnt:D.wnt=wntOf gs css
 mn:D.mn=manyOf css
 byt:D.byt=List.replicate sv noB
theorem begun_any (ga:Option Addr)(gn gc:Nat)(gs:List Int)(la:Option Addr)(ln lc:Nat)(ls:List (List Int))(w:World)(hg:RawIn w ga gn gc gs)(hl:LisIn w la ln lc ls):Calls Tryz.prog 24 #[.slice ga gn gc,.slice la ln lc] w fun e w'=>∃P X css D,e= .returned (.pointer (some ⟨P,0,none⟩))∧Bg2 gs w w' P X (1+pickN (rawN gs 0) 4) (1+pickN (rawN gs 1) 16) (1+pickN (rawN gs 2) 6) css D∧css.length=min ln 4:=by
 have HRaw:Hid (∀W,Below w.heap.size w W→∀i:Nat,i≤140737488355328→Calls Tryz.prog 37 #[.slice ga gn gc,.int .i64 (i:Int)] W fun e w'=>e= .returned (.int .i64 (rawN gs i))∧w'=W):=fun W hW i hi=>raw_any ga gn gc gs i W (hg.later hW) hi
 have HWf:=hide' (fun i=>rawN_wf hg i);have HR0:Hid (∀W,Below w.heap.size w W→Calls Tryz.prog 37 #[.slice ga gn gc,.int .i64 0] W fun e w'=>e= .returned (.int .i64 (rawN gs 0))∧w'=W):=fun W hW=>HRaw.out W hW 0 (by omega)
 have HR1:Hid (∀W,Below w.heap.size w W→Calls Tryz.prog 37 #[.slice ga gn gc,.int .i64 1] W fun e w'=>e= .returned (.int .i64 (rawN gs 1))∧w'=W):=fun W hW=>HRaw.out W hW 1 (by omega)
 have HR2:Hid (∀W,Below w.heap.size w W→Calls Tryz.prog 37 #[.slice ga gn gc,.int .i64 2] W fun e w'=>e= .returned (.int .i64 (rawN gs 2))∧w'=W):=fun W hW=>HRaw.out W hW 2 (by omega)
 have HP0:=hide' (fun W=>pick_big (rawN gs 0) 4 W (HWf.out _) (by omega) (by omega));have HP1:=hide' (fun W=>pick_big (rawN gs 1) 16 W (HWf.out _) (by omega) (by omega));have HP2:=hide' (fun W=>pick_big (rawN gs 2) 6 W (HWf.out _) (by omega) (by omega));have hp0:=pickN_lt (rawN gs 0) 4 (by omega);have hp1:=pickN_lt (rawN gs 1) 16 (by omega);have hp2:=pickN_lt (rawN gs 2) 6 (by omega);generalize pickN (rawN gs 0) 4=p0 at*;generalize pickN (rawN gs 1) 16=p1 at*;generalize pickN (rawN gs 2) 6=p2 at*;have HLi:=hide' hl;have hln:=hl.small;clear hg hl;have HHd:=hide' (khead_any w);have HNw:Hid (∀W,Calls Tryz.prog 53 #[.agg #[.int .i64 (1+(p0:Int)),.int .i64 (1+(p1:Int)),.int .i64 (1+(p2:Int))]] W fun e w'=>∃X M,e= .returned (.tuple #[.pointer (some ⟨X,0,none⟩),.int .i64 0])∧JPl w' X (1+p0) (1+p1) (1+p2) 0 ([],List.replicate (1+p0) ⟨true,0,[],[]⟩) M∧Below W.heap.size W w'∧∀b∈M,W.heap.size≤b):=fun W=>by
  have h:=new_pl (1+p0) (1+p1) (1+p2) W (config_pl hp0 hp1 hp2);rw[show((1+p0:Nat):Int)=1+(p0:Int)by omega,show((1+p1:Nat):Int)=1+(p1:Int)by omega,show((1+p2:Nat):Int)=1+(p2:Int)by omega]at h;exact h
 go_enter Tryz.func24,Tryz.ntmps24;go_wp2_with fail
 go_at_call 52;refine HHd.out.mono ?_;rintro e w1 ⟨rfl,hb1⟩;have HB1:=hide' hb1;clear hb1 HHd;go_wp2_with fail
 go_at_call 37;refine(HR0.out _ HB1.out).mono ?_;rintro e w2 ⟨rfl,hw2⟩;subst hw2;go_wp2_with fail
 go_at_call 17;refine(HP0.out _).mono ?_;rintro e w1 ⟨rfl,hw2⟩;subst hw2;go_wp2_with fail
 go_at_call 37;refine(HR1.out _ HB1.out).mono ?_;rintro e w2 ⟨rfl,hw2⟩;subst hw2;go_wp2_with fail
 go_at_call 17;refine(HP1.out _).mono ?_;rintro e w1 ⟨rfl,hw2⟩;subst hw2;go_wp2_with fail
 go_at_call 37;refine(HR2.out _ HB1.out).mono ?_;rintro e w2 ⟨rfl,hw2⟩;subst hw2;go_wp2_with fail
 go_at_call 17;refine(HP2.out _).mono ?_;rintro e w1 ⟨rfl,hw2⟩;subst hw2;go_wp2_with fail
 go_at_call 53;refine(HNw.out _).mono ?_;rintro e w3 ⟨X,M,rfl,hj3,hb3,hm3⟩;have HF:=hide' (PlayV.first (w0:=w) hj3 (fun b hb=>Nat.le_trans HB1.out.size (hm3 b hb)) (HB1.out.trans (hb3.mono HB1.out.size)));clear hj3 hb3 hm3 HB1 HR1 HR2 HP1 HP2 HNw;obtain⟨i62,h41,h42,h43,h44⟩:=info62;have HI62:=hide' (And.intro h41 (And.intro h42 (And.intro h43 h44)));obtain⟨i9,h91,h92,h93,h94⟩:=info9s;have HI9:=hide' (And.intro h91 (And.intro h92 (And.intro h93 h94)));obtain⟨i3,h31,h32,h33,h34⟩:=info3k;have HI3:=hide' (And.intro h31 (And.intro h32 (And.intro h33 h34)));clear h41 h42 h43 h44 h91 h92 h93 h94 h31 h32 h33 h34;go_wp2_with fail
 unfold ptrV at HF;generalize hW4:w3.alloc (.cells #[.pointer (some ⟨X,0,none⟩),.slice none 0 0,.slice none 0 0,.slice none 0 0,.slice none 0 0,.slice none 0 0,.slice none 0 0] 56)=W4 at*;have hP4:w3.heap.size<W4.heap.size:=by rw[←hW4];simp
 generalize w3.heap.size=P at*;clear hW4;go_loopw [9] (fun i wr=>∃(j:Nat),i= .int .i64 (j:Int)∧j≤1+p0∧Hid (Bg1 w wr P X (1+p0) (1+p1) (1+p2) j)) (fun i _=>1+p0-(intOf i).toNat)
 case atStart=>exact⟨0,rfl,Nat.zero_le _,[],[],_,_,HF.out,rfl,fun s hs=>(by cases hs),rfl⟩
 case round=>
  obtain⟨j,rfl,hj,S,byt,v1,v6,hpl,hS,hnS,hby⟩:=hrel;have HPl:=hide' hpl;have HQ:=hide' (And.intro hS (And.intro hnS hby));clear hpl hS hnS hby HF;have HR0':=hide' (HR0.out wr HPl.out.bel);have HP0':=hide' (HP0.out wr);by_cases hlt:j<1+p0
  ·have hlt':(j:Int)≤(p0:Int):=by omega
   go_wp2_with fail
   go_at_call 37;refine HR0'.out.mono ?_;rintro e w5 ⟨rfl,hw5⟩;subst hw5;go_wp2_with fail
   go_at_call 17;refine HP0'.out.mono ?_;rintro e w6 ⟨rfl,hw6⟩;subst hw6;obtain⟨a1,c1,e1,hc1,hR1⟩:=(HPl.out.below ((Below.refl _ w6).alloc (Nat.le_refl _) (.cells #[.slice none 0 0,.int .i64 0,.slice none 0 0] 68))).rowAt (i:=0) (n:=j) rfl (by show(S.map _).length=j;rw[List.length_map];exact HQ.out.1);change v1=_ at e1;subst e1;have HRF:=hide' hR1;have hSj:(newD S byt (.slice a1 j c1) v6).S.length=j:=HQ.out.1;have HPu:Hid (∀(O:Obj) (g2 cap2:Nat) (w9:World),w9.ownsRow 0 62 1 (.slice (some ⟨g2,0,none⟩) (j+1) cap2) (j+1) (S.map (fun s=>ptrV s.b)++[ptrV w6.heap.size])→((w6.alloc (.cells #[.slice none 0 0,.int .i64 0,.slice none 0 0] 68)).alloc O).grownBy w9 (Value.slice a1 j c1).ownBlock→((Value.slice a1 j c1).ownBlock=some g2∨g2=w6.heap.size+2)→PlayV w (w9.setCell ⟨P,1,none⟩ (.slice (some ⟨g2,0,none⟩) (j+1) cap2)) P X (1+p0) (1+p1) (1+p2) 0 ([],List.replicate (1+p0) ⟨true,0,[],[]⟩) (newD (S++[newSv w6.heap.size]) byt (.slice (some ⟨g2,0,none⟩) (j+1) cap2) v6)∧w9.frozen? ⟨P,1,none⟩=false∧P<w9.heap.size∧w9.cell? ⟨P,1,none⟩=some (Value.slice a1 j c1)):=fun O g2 cap2 w9 h1 h2 h3=>by
    have:=HPl.out.server (O:=O) (w9:=w9) (g:=g2) (cap:=cap2) (by rw[hSj];exact h1) h2 h3;rw[hSj]at this;exact this
   have b1:=blkCell HPl.out.blk 1;have hPl:=blkLt HPl.out.blk;simp[newD]at b1;clear hR1 hSj;unfold ptrV at HPu HRF;go_upto_region 10 with(first
    |(at_builtin;refine wpList_append_lies _ rfl _ _ _ rfl 0 62 i62 (.pointer none) 1 8 Tryz.underlying54 HI62.out.1 HI62.out.2.1 HI62.out.2.2.1 HI62.out.2.2.2 rfl (by omega) (.slice a1 j c1) j _ rfl (HRF.out _) ⟨w6.heap.size+1,0,none⟩ 1 1 [.pointer (some ⟨w6.heap.size,0,none⟩)] rfl rfl (World.news_of_block (hs_new (by simp))) (fun u hu=>by simp at hu;subst hu;rfl) (by omega) (by unfold maxLen;omega) (by omega) (Nat.zero_le _) _ rfl ?_;intro g2 cap2 w9 hown hgr hat hlt;have hp:=HPu.out _ g2 cap2 w9 hown hgr (by rcases hat with e|e;exact Or.inl e;exact Or.inr (by simpa using e));have HPl2:=hide' hp.1;have cf9:=hp.2.1;have hBl9:=hp.2.2.1;have cc9:=hp.2.2.2;clear hown hgr hat hp)
    |fail)
   clear HPu HRF HPl b1 hPl cf9 hBl9 cc9;generalize hS2:S++[newSv w6.heap.size]=S2 at*;have HS2:=hide' hS2;clear hS2;generalize w9.setCell ⟨P,1,none⟩ (.slice (some ⟨g2,0,none⟩) (j+1) cap2)=w7 at*;have hbl:(byt.map Value.string).length=j:=by rw[List.length_map,HQ.out.2.2,List.length_replicate]
   obtain⟨a6,c6,e6,hc6,hR6⟩:=HPl2.out.rowAt (i:=5) (n:=j) rfl hbl;change v6=_ at e6;subst e6;have HRF:=hide' hR6;have HPu:Hid (∀(O:Obj) (g3 cap3:Nat) (w9:World),w9.ownsRow 0 9 1 (.slice (some ⟨g3,0,none⟩) (j+1) cap3) (j+1) (byt.map .string++[.string ⟨#[]⟩])→(w7.alloc O).grownBy w9 (Value.slice a6 j c6).ownBlock→((Value.slice a6 j c6).ownBlock=some g3∨g3=w7.heap.size+1)→_):=fun O g3 cap3 w9 h1 h2 h3=>HPl2.out.pushG (O:=O) (i:=5) rfl hbl h1 h2 h3 (D':=newD S2 (byt++[noB]) (.slice (some ⟨g2,0,none⟩) (j+1) cap2) (.slice (some ⟨g3,0,none⟩) (j+1) cap3)) rfl (by simp[PlD.rows,newD,noB])
   have b6:=blkCell HPl2.out.blk 6;have hPl:=blkLt HPl2.out.blk;simp[newD]at b6;clear hR6 hbl;go_upto_region 8 with(first
    |(at_builtin;refine wpList_append_lies _ rfl _ _ _ rfl 0 9 i9 (.string ⟨#[]⟩) 1 16 Tryz.underlying34 HI9.out.1 HI9.out.2.1 HI9.out.2.2.1 HI9.out.2.2.2 rfl (by omega) (.slice a6 j c6) j _ rfl (HRF.out _) ⟨w7.heap.size,0,none⟩ 1 1 [.string ⟨#[]⟩] rfl rfl (World.news_of_block (hs_new (by simp))) (fun u hu=>by simp at hu;subst hu;rfl) (by omega) (by unfold maxLen;omega) (by omega) (Nat.zero_le _) _ rfl ?_;intro g3 cap3 w9 hown hgr hat hlt;have hp:=HPu.out _ g3 cap3 w9 hown hgr (by rcases hat with e|e;exact Or.inl e;exact Or.inr (by simpa using e));have HPl3:=hide' hp.1;have cf9:=hp.2.1;have hBl9:=hp.2.2.1;have cc9:=hp.2.2.2;clear hown hgr hat hp)
    |fail)
   clear HPu HRF HPl2 b6 hPl cf9 hBl9 cc9;go_wp2_with fail
   go_roundw;case rel=>
    refine⟨j+1,by go_num,by omega,S2,byt++[noB],_,_,HPl3.out,?_,?_,?_⟩
    ·rw[←HS2.out,List.length_append,HQ.out.1];rfl
    ·intro s hs;rw[←HS2.out]at hs;rcases List.mem_append.1 hs with e|e
     ·exact HQ.out.2.1 s e
     ·simp at e;exact⟨_,e⟩
    ·rw[HQ.out.2.2,List.replicate_succ']
   case measure=>simp[intOf];omega
  ·have hlt':¬(j:Int)≤(p0:Int):=by omega
   have hj2:j=1+p0:=by omega
   have HB0:Hid (Bg2 gs w wr P X (1+p0) (1+p1) (1+p2) [] (newD S byt v1 v6)):=by
    refine⟨HPl.out,⟨fun i cs h=>(by simp at h),fun i cs h=>(by simp at h),fun i cs h=>(by simp at h),fun i cs h=>(by simp at h)⟩,?_,HQ.out.2.1,rfl,rfl,rfl,rfl,?_⟩
    ·exact HQ.out.1.trans hj2
    ·exact HQ.out.2.2.trans (by rw[hj2])
   generalize newD S byt v1 v6=D0 at*;clear HPl HQ hj2;go_wp2_with fail
   go_at_call 37;refine HR0'.out.mono ?_;rintro e w5 ⟨rfl,hw5⟩;subst hw5;go_wp2_with fail
   go_at_call 17;refine HP0'.out.mono ?_;rintro e w6 ⟨rfl,hw6⟩;subst hw6;clear HR0' HP0' HR0 HP0 HI62;go_wp2_with fail
   have hdd:decide (j≤p0)=false:=by simp;omega
   simp only[hdd]
   clear hdd hlt hlt';go_loopw [10,11,12,13,14,15,16,17,18] (fun i _ _ _ _ _ _ _ _ wr=>∃(j:Nat),i= .int .i64 (j:Int)∧j≤4∧j≤ln∧Hid (∃css D,Bg2 gs w wr P X (1+p0) (1+p1) (1+p2) css D∧css.length=j)) (fun i _ _ _ _ _ _ _ _ _=>4-(intOf i).toNat)
   case atStart=>exact⟨0,rfl,by omega,by omega,[],D0,HB0.out,rfl⟩
   case round=>
    obtain⟨j,rfl,hj4,hjn,css,D,hB,hcl⟩:=hrel;have HB:=hide' hB;have HCl:=hide' hcl;clear hB hcl HB0;by_cases hgo:j<ln∧j<4
    ·obtain⟨g1,g2⟩:=hgo;have g1':(j:Int)<(ln:Int):=by omega
     have g2':(j:Int)<4:=by omega
     obtain⟨S,txt,sd,wnt,mn,byt,v1,v2,v3,v4,v5,v6⟩:=D;have hdl:=HCl.out;obtain⟨xs,hxs⟩:∃xs,ls[j]?=some xs:=⟨_,List.getElem?_eq_getElem (by have:=HLi.out.len;omega)⟩
     obtain⟨lg,lo,ia,im,ic,rfl,hlg,hlcell,hraw⟩:=HLi.out.by_ j xs hxs;have hlc:=HLi.out.cap;have HRw:=hide' hraw;have HLc:=hide' (And.intro hlg hlcell);clear hraw hlg hlcell hxs;have HRj:Hid (Calls Tryz.prog 37 #[.slice ga gn gc,.int .i64 (3+(j:Int))] wr fun e w'=>e= .returned (.int .i64 (rawN gs (3+j)))∧w'=wr):=by
      have h:=HRaw.out wr HB.out.pl.bel (3+j) (by omega);rw[show((3+j:Nat):Int)=3+(j:Int)by omega]at h;exact h
     have HPj:=hide' (pick_big (rawN gs (3+j)) 3 wr (HWf.out _) (by omega) (by omega));have hp3:=pickN_lt (rawN gs (3+j)) 3 (by omega);have HD:Hid (((dOf gs j:Nat):Int)=1+(pickN (rawN gs (3+j)) 3:Int)):=by
      have e:((dOf gs j:Nat):Int)=1+(pickN (rawN gs (3+j)) 3:Int):=by unfold dOf;omega
      exact e
     generalize pickN (rawN gs (3+j)) 3=p at*;have HOp:Hid (Calls Tryz.prog 54 #[.pointer (some ⟨X,0,none⟩),.int .i64 (1+(p:Int))] wr fun e w'=>e= .returned (.tuple #[.int .i64 (j:Int),.int .i64 0])∧PlayV w w' P X (1+p0) (1+p1) (1+p2) 0 (cliOf gs css++[newQ (dOf gs j)],List.replicate (1+p0) ⟨true,0,[],[]⟩) ⟨S,txt,sd,wnt,mn,byt,v1,v2,v3,v4,v5,v6⟩):=by
      obtain⟨M,h1,h2,h3⟩:=HB.out.pl;have hcl:(cliOf gs css).length=j:=by unfold cliOf;rw[List.length_mapIdx];exact HCl.out
      have h:=open_pl h2 (dOf gs j) (dOf_123 gs j) (by rw[hcl];exact g2);rw[←HD.out];refine h.mono ?_;rintro e w' ⟨rfl,hj⟩;exact⟨by rw[hcl],PlayV.jun ⟨M,h1,hj,h3⟩⟩
     have HSd:Hid (∀W,Below w.heap.size w W→Calls Tryz.prog 18 #[.int .i64 (1+(p:Int)),.int .i64 (j:Int),.slice ia im ic,.int .i64 40] W fun e w'=>∃v s cs,e= .returned (.tuple #[v,.string s,.bool true])∧CmdsIn w' W.heap.size v cs∧s.data.toList=asksFrom (dOf gs j) 0 cs∧(∀x∈cs,GoodC (dOf gs j) x)∧cs.length≤40∧s.size≤15000∧Below W.heap.size W w'∧(∀x∈cs,∀k∈x.keys,ownK j k)):=fun W hW=>by
      rw[←HD.out];exact said_own (dOf gs j) j ia im ic xs 40 W (HRw.out.later hW) (dOf_123 gs j) (by omega) (by omega)
     have HAl:Hid (∀W va vn vc cs lo,CmdsIn W lo (.slice va vn vc) cs→cs.length=vn→(∀x∈cs,GoodC (dOf gs j) x)→vn≤50→Calls Tryz.prog 55 #[.int .i64 (1+(p:Int)),.slice va vn vc] W fun e w'=>e= .returned (.tuple #[.string (mkB (alRun (dOf gs j) 0 cs ([],[])).1),.bool true])∧Below W.heap.size W w'):=fun W va vn vc cs lo h1 h2 h3 h4=>by
      rw[←HD.out];exact alone_any (dOf gs j) va vn vc cs lo W (dOf_123 gs j) h1 h2 h3 h4
     clear HD;go_wp2_with fail
     go_at_call 37;refine HRj.out.mono ?_;rintro e w2 ⟨rfl,hw2⟩;subst hw2;go_wp2_with fail
     go_at_call 17;refine HPj.out.mono ?_;rintro e w2 ⟨rfl,hw2⟩;subst hw2;go_wp2_with fail
     go_at_call 54;refine HOp.out.mono ?_;rintro e w3 ⟨rfl,hpl3⟩;have HPl3:=hide' hpl3;have hlc3:=(hpl3.bel.cell (p:=⟨lg,lo+j,none⟩) HLc.out.1).trans HLc.out.2;have hlg3:=Nat.lt_of_lt_of_le HLc.out.1 hpl3.bel.size;clear hpl3 HOp HRj HPj;go_wp2_with fail
     go_at_call 18;refine(HSd.out _ HPl3.out.bel).mono ?_;rintro e w4 ⟨v,s,cs,rfl,hci,hsl,hgd,hcl40,hs15,hb4,hmine⟩;have hvf:∃va vc,v= .slice va cs.length vc:=by
      obtain⟨kvs,_,hr,_⟩:=hci;rcases hr.2 with⟨e1,e2⟩|⟨g,cap,cur,e1,_⟩
      ·exact⟨none,0,by rw[e1,e2]⟩
      ·exact⟨_,_,e1⟩
     obtain⟨va,vc,rfl⟩:=hvf;have HAl4:=hide' (HAl.out w4 va cs.length vc cs _ hci rfl hgd (by omega));have HPl4:=hide' (HPl3.out.below hb4);have HC4:=hide' (And.intro hsl (And.intro hgd (And.intro hcl40 (And.intro hs15 hmine))));clear hci hsl hgd hcl40 hs15 hb4 hmine HPl3 HSd HAl hlc3 hlg3;go_wp2_with fail
     go_at_call 55;refine HAl4.out.mono ?_;rintro e w5 ⟨rfl,hb5⟩;have HPl5:=hide' (HPl4.out.below hb5);clear hb5 HPl4 HAl4;generalize hT:mkB (alRun (dOf gs j) 0 cs ([],[])).1=T at*;have HT:=hide' hT;clear hT;have HLn:=hide' HC4.out.2.2.1;generalize hcn:cs.length=cn at*;have HCn:=hide' hcn;clear hcn;go_upto_region 20 with fail
     have hbl:(txt.map Value.string).length=j:=by rw[List.length_map];have e:txt=txtOf gs css:=HB.out.txt;rw[e];unfold txtOf;rw[List.length_mapIdx];exact HCl.out
     obtain⟨a2,c2,e2,hc2,hR2⟩:=HPl5.out.rowAt (i:=1) (n:=j) rfl hbl;change v2=_ at e2;subst e2;have HRF:=hide' hR2;have HPu:Hid (∀(O:Obj) (gq capq:Nat) (w9:World),w9.ownsRow 0 9 1 (.slice (some ⟨gq,0,none⟩) (j+1) capq) (j+1) (txt.map Value.string++[Value.string s])→(w5.alloc O).grownBy w9 (Value.slice a2 j c2).ownBlock→((Value.slice a2 j c2).ownBlock=some gq∨gq=w5.heap.size+1)→_):=fun O gq capq w9 h1 h2 h3=>HPl5.out.pushG (O:=O) (i:=1) rfl hbl h1 h2 h3 (D':=⟨S,txt++[s],sd,wnt,mn,byt,v1,.slice (some ⟨gq,0,none⟩) (j+1) capq,v3,v4,v5,v6⟩) rfl (by simp[PlD.rows,intsV])
     have bb:=blkCell HPl5.out.blk 2;have hPl:=blkLt HPl5.out.blk;simp at bb;clear hR2 hbl;go_upto_region 21 with(first
      |(at_builtin;refine wpList_append_lies _ rfl _ _ _ rfl 0 9 i9 (.string ⟨#[]⟩) 1 16 Tryz.underlying34 HI9.out.1 HI9.out.2.1 HI9.out.2.2.1 HI9.out.2.2.2 rfl (by omega) (.slice a2 j c2) j _ rfl (HRF.out _) ⟨w5.heap.size,0,none⟩ 1 1 [Value.string s] rfl rfl (World.news_of_block (hs_new (by simp))) (fun u hu=>by simp at hu;subst hu;rfl) (by omega) (by unfold maxLen;omega) (by omega) (Nat.zero_le _) _ rfl ?_;intro k2 cap2 w9 hown hgr hat hlt;have hp:=HPu.out _ k2 cap2 w9 hown hgr (by rcases hat with e|e;exact Or.inl e;exact Or.inr (by simpa using e));have HPl6:=hide' hp.1;have cf9:=hp.2.1;have hBl9:=hp.2.2.1;have cc9:=hp.2.2.2;clear hown hgr hat hp)
      |fail)
     clear HPu HRF HPl5 bb hPl cf9 hBl9 cc9;generalize w9.setCell ⟨P,2,none⟩ (.slice (some ⟨k2,0,none⟩) (j+1) cap2)=w6 at*;have hbl:(intsV sd).length=j:=by unfold intsV;rw[List.length_map];have e:sd=List.replicate css.length 0:=HB.out.sd;rw[e,List.length_replicate];exact HCl.out
     obtain⟨a3,c3,e3,hc3,hR3⟩:=HPl6.out.rowAt (i:=2) (n:=j) rfl hbl;change v3=_ at e3;subst e3;have HRF:=hide' hR3;have HPu:Hid (∀(O:Obj) (gq capq:Nat) (w9:World),w9.ownsRow 0 3 1 (.slice (some ⟨gq,0,none⟩) (j+1) capq) (j+1) (intsV sd++[Value.int .i64 0])→(w6.alloc O).grownBy w9 (Value.slice a3 j c3).ownBlock→((Value.slice a3 j c3).ownBlock=some gq∨gq=w6.heap.size+1)→_):=fun O gq capq w9 h1 h2 h3=>HPl6.out.pushG (O:=O) (i:=2) rfl hbl h1 h2 h3 (D':=⟨S,txt++[s],sd++[0],wnt,mn,byt,v1,.slice (some ⟨k2,0,none⟩) (j+1) cap2,.slice (some ⟨gq,0,none⟩) (j+1) capq,v4,v5,v6⟩) rfl (by simp[PlD.rows,intsV])
     have bb:=blkCell HPl6.out.blk 3;have hPl:=blkLt HPl6.out.blk;simp at bb;clear hR3 hbl;go_upto_region 22 with(first
      |(at_builtin;refine wpList_append_lies _ rfl _ _ _ rfl 0 3 i3 (.int .i64 0) 1 8 Tryz.underlying25 HI3.out.1 HI3.out.2.1 HI3.out.2.2.1 HI3.out.2.2.2 rfl (by omega) (.slice a3 j c3) j _ rfl (HRF.out _) ⟨w6.heap.size,0,none⟩ 1 1 [Value.int .i64 0] rfl rfl (World.news_of_block (hs_new (by simp))) (fun u hu=>by simp at hu;subst hu;rfl) (by omega) (by unfold maxLen;omega) (by omega) (Nat.zero_le _) _ rfl ?_;intro k3 cap3 w9 hown hgr hat hlt;have hp:=HPu.out _ k3 cap3 w9 hown hgr (by rcases hat with e|e;exact Or.inl e;exact Or.inr (by simpa using e));have HPl7:=hide' hp.1;have cf9:=hp.2.1;have hBl9:=hp.2.2.1;have cc9:=hp.2.2.2;clear hown hgr hat hp)
      |fail)
     clear HPu HRF HPl6 bb hPl cf9 hBl9 cc9;generalize w9.setCell ⟨P,3,none⟩ (.slice (some ⟨k3,0,none⟩) (j+1) cap3)=w7 at*;have hbl:(wnt.map Value.string).length=j:=by rw[List.length_map];have e:wnt=wntOf gs css:=HB.out.wnt;rw[e];unfold wntOf;rw[List.length_mapIdx];exact HCl.out
     obtain⟨a4,c4,e4,hc4,hR4⟩:=HPl7.out.rowAt (i:=3) (n:=j) rfl hbl;change v4=_ at e4;subst e4;have HRF:=hide' hR4;have HPu:Hid (∀(O:Obj) (gq capq:Nat) (w9:World),w9.ownsRow 0 9 1 (.slice (some ⟨gq,0,none⟩) (j+1) capq) (j+1) (wnt.map Value.string++[Value.string T])→(w7.alloc O).grownBy w9 (Value.slice a4 j c4).ownBlock→((Value.slice a4 j c4).ownBlock=some gq∨gq=w7.heap.size+1)→_):=fun O gq capq w9 h1 h2 h3=>HPl7.out.pushG (O:=O) (i:=3) rfl hbl h1 h2 h3 (D':=⟨S,txt++[s],sd++[0],wnt++[T],mn,byt,v1,.slice (some ⟨k2,0,none⟩) (j+1) cap2,.slice (some ⟨k3,0,none⟩) (j+1) cap3,.slice (some ⟨gq,0,none⟩) (j+1) capq,v5,v6⟩) rfl (by simp[PlD.rows,intsV])
     have bb:=blkCell HPl7.out.blk 4;have hPl:=blkLt HPl7.out.blk;simp at bb;clear hR4 hbl;go_upto_region 23 with(first
      |(at_builtin;refine wpList_append_lies _ rfl _ _ _ rfl 0 9 i9 (.string ⟨#[]⟩) 1 16 Tryz.underlying34 HI9.out.1 HI9.out.2.1 HI9.out.2.2.1 HI9.out.2.2.2 rfl (by omega) (.slice a4 j c4) j _ rfl (HRF.out _) ⟨w7.heap.size,0,none⟩ 1 1 [Value.string T] rfl rfl (World.news_of_block (hs_new (by simp))) (fun u hu=>by simp at hu;subst hu;rfl) (by omega) (by unfold maxLen;omega) (by omega) (Nat.zero_le _) _ rfl ?_;intro k4 cap4 w9 hown hgr hat hlt;have hp:=HPu.out _ k4 cap4 w9 hown hgr (by rcases hat with e|e;exact Or.inl e;exact Or.inr (by simpa using e));have HPl8:=hide' hp.1;have cf9:=hp.2.1;have hBl9:=hp.2.2.1;have cc9:=hp.2.2.2;clear hown hgr hat hp)
      |fail)
     clear HPu HRF HPl7 bb hPl cf9 hBl9 cc9;generalize w9.setCell ⟨P,4,none⟩ (.slice (some ⟨k4,0,none⟩) (j+1) cap4)=w8 at*;have hbl:(intsV mn).length=j:=by unfold intsV;rw[List.length_map];have e:mn=manyOf css:=HB.out.mn;rw[e];unfold manyOf;rw[List.length_map];exact HCl.out
     obtain⟨a5,c5,e5,hc5,hR5⟩:=HPl8.out.rowAt (i:=4) (n:=j) rfl hbl;change v5=_ at e5;subst e5;have HRF:=hide' hR5;have HPu:Hid (∀(O:Obj) (gq capq:Nat) (w9:World),w9.ownsRow 0 3 1 (.slice (some ⟨gq,0,none⟩) (j+1) capq) (j+1) (intsV mn++[Value.int .i64 (cn:Int)])→(w8.alloc O).grownBy w9 (Value.slice a5 j c5).ownBlock→((Value.slice a5 j c5).ownBlock=some gq∨gq=w8.heap.size+1)→_):=fun O gq capq w9 h1 h2 h3=>HPl8.out.pushG (O:=O) (i:=4) rfl hbl h1 h2 h3 (D':=⟨S,txt++[s],sd++[0],wnt++[T],mn++[cn],byt,v1,.slice (some ⟨k2,0,none⟩) (j+1) cap2,.slice (some ⟨k3,0,none⟩) (j+1) cap3,.slice (some ⟨k4,0,none⟩) (j+1) cap4,.slice (some ⟨gq,0,none⟩) (j+1) capq,v6⟩) rfl (by simp[PlD.rows,intsV])
     have bb:=blkCell HPl8.out.blk 5;have hPl:=blkLt HPl8.out.blk;simp at bb;clear hR5 hbl;go_upto_region 13 with(first
      |(at_builtin;refine wpList_append_lies _ rfl _ _ _ rfl 0 3 i3 (.int .i64 0) 1 8 Tryz.underlying25 HI3.out.1 HI3.out.2.1 HI3.out.2.2.1 HI3.out.2.2.2 rfl (by omega) (.slice a5 j c5) j _ rfl (HRF.out _) ⟨w8.heap.size,0,none⟩ 1 1 [Value.int .i64 (cn:Int)] rfl rfl (World.news_of_block (hs_new (by simp))) (fun u hu=>by simp at hu;subst hu;rfl) (by omega) (by unfold maxLen;omega) (by omega) (Nat.zero_le _) _ rfl ?_;intro k5 cap5 w9 hown hgr hat hlt;have hp:=HPu.out _ k5 cap5 w9 hown hgr (by rcases hat with e|e;exact Or.inl e;exact Or.inr (by simpa using e));have HPl9:=hide' hp.1;have cf9:=hp.2.1;have hBl9:=hp.2.2.1;have cc9:=hp.2.2.2;clear hown hgr hat hp)
      |fail)
     clear HPu HRF HPl8 bb hPl cf9 hBl9 cc9;generalize w9.setCell ⟨P,5,none⟩ (.slice (some ⟨k5,0,none⟩) (j+1) cap5)=w10 at*;go_wp2_with fail
     go_roundw;case rel=>
      refine⟨j+1,by go_num,by omega,by omega,css++[cs],⟨S,txt++[s],sd++[0],wnt++[T],mn++[cn],byt,v1,.slice (some ⟨k2,0,none⟩) (j+1) cap2,.slice (some ⟨k3,0,none⟩) (j+1) cap3,.slice (some ⟨k4,0,none⟩) (j+1) cap4,.slice (some ⟨k5,0,none⟩) (j+1) cap5,v6⟩,⟨?_,?_,HB.out.lS,HB.out.nS,?_,?_,?_,?_,HB.out.byt⟩,?_⟩
      ·have e:cliOf gs (css++[cs])=cliOf gs css++[newQ (dOf gs j)]:=by unfold cliOf;rw[List.mapIdx_concat,HCl.out]
       rw[e];exact HPl9.out
      ·have h4:=HC4.out;rw[←HCl.out]at h4;refine HB.out.said.snoc h4.2.1 h4.2.2.2.2 (by rw[HCn.out];exact HLn.out) ?_;rw[←h4.1,len_size];exact h4.2.2.2.1
      ·show txt++[s]=_;have e:txt=txtOf gs css:=HB.out.txt;rw[e];unfold txtOf;rw[List.mapIdx_concat,HCl.out,←HC4.out.1];rfl
      ·show sd++[0]=_;have e:sd=List.replicate css.length 0:=HB.out.sd;rw[e,List.length_append];exact List.replicate_succ'.symm
      ·show wnt++[T]=_;have e:wnt=wntOf gs css:=HB.out.wnt;rw[e,←HT.out];unfold wntOf;rw[List.mapIdx_concat,HCl.out]
      ·show mn++[cn]=_;have e:mn=manyOf css:=HB.out.mn;rw[e,←HCn.out];unfold manyOf;rw[List.map_append];rfl
      ·rw[List.length_append,HCl.out];rfl
     case measure=>simp[intOf];omega
    ·have HGo:=hide' hgo;clear hgo;have fin:∃P' X' css D,Ending.returned (.pointer (some ⟨P,0,none⟩))= .returned (.pointer (some ⟨P',0,none⟩))∧Bg2 gs w wr P' X' (1+p0) (1+p1) (1+p2) css D∧css.length=min ln 4:=⟨P,X,css,D,rfl,HB.out,by
      rw[HCl.out];have:=HGo.out;omega⟩
     have HFi:=hide' fin;clear fin;by_cases g1:j<ln
     ·have g1':(j:Int)<(ln:Int):=by omega
      have g2':¬(j:Int)<4:=by intro h;exact HGo.out ⟨g1,by omega⟩
      go_wp2_with fail
      go_ret;obtain⟨P',X',css',D',e1,h1,h2⟩:=HFi.out;cases e1;exact⟨P,rfl,X',css',⟨D',h1⟩,h2⟩
     ·have g1':¬(j:Int)<(ln:Int):=by omega
      go_wp2_with fail
      go_ret;obtain⟨P',X',css',D',e1,h1,h2⟩:=HFi.out;cases e1;exact⟨P,rfl,X',css',⟨D',h1⟩,h2⟩
end Go.Proofs.YtlonjggfnleolaaGreatDoor
