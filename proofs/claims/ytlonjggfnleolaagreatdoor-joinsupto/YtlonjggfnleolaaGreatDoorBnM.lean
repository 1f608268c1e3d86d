import Derived.Test.YtlonjggfnleolaaGreatDoorBnC
namespace Go.Proofs.YtlonjggfnleolaaGreatDoor
open Go.RowKit Go.Shelf Go.Conc
set_option linter.unusedVariables false
variable {W:World}{v:QI}{x:QS}{d:Int}
def tellF (d:Int):Nat:=if d=1 then 212 else if d=2 then 245 else 252
theorem QuAt.bools (h:QuAt W v x)(hl:x.ps.length≤1000):BoolsIn W (some ⟨v.yb,0,none⟩) x.ps.length x.ps.length (x.ps.map PS.yes):=by
 refine⟨by simp,Nat.le_refl _,by simp;omega,.inl ⟨v.yb,0,rfl,blkLt h.yes,fun i s hs=>?_⟩⟩;rw[blkCell h.yes (0+i),Nat.zero_add];unfold yesC;rw[List.getElem?_map]at hs;simp only[List.getElem?_toArray,List.getElem?_map]
 cases hp:x.ps[i]?with
 |none=>rw[hp]at hs;cases hs
 |some p=>rw[hp]at hs;cases hs;rfl
theorem QuAt.strs (h:QuAt W v x)(hl:x.ps.length≤1000)(h40:∀p∈x.ps,p.val.size≤40):StrsIn W (some ⟨v.vb,0,none⟩) x.ps.length x.ps.length (x.ps.map PS.val):=by
 refine⟨by simp,Nat.le_refl _,by simp;omega,fun s hs=>?_,.inl ⟨v.vb,0,rfl,blkLt h.val,fun i s hs=>?_⟩⟩
 ·obtain⟨p,hp,rfl⟩:=List.mem_map.1 hs;have:=h40 p hp;unfold maxLen;omega
 ·rw[blkCell h.val (0+i),Nat.zero_add];unfold valC;rw[List.getElem?_map]at hs;simp only[List.getElem?_toArray,List.getElem?_map]
  cases hp:x.ps[i]?with
  |none=>rw[hp]at hs;cases hs
  |some p=>rw[hp]at hs;cases hs;rfl
theorem dial_tell (d:Int)(hd:d=1∨d=2∨d=3)(ck:Int)(a:Option Addr)(n c:Nat)(ss:List ByteArray)(val cw:ByteArray)(ft:Bool)(cid:Int)(ak:Int)(fa va:Option Addr)(fn fc vn vc:Nat)(bs:List Bool)(vs:List ByteArray)(fv vv:Value)(wd:ByteArray)(id:Int)(W:World)(hs:StrsIn W a n c ss)(hf:BoolsIn W fa fn fc bs)(hv:StrsIn W va vn vc vs)(hA:answerB ck ss val ak bs vs wd=true)(hS:sayB d ck n id=true)(hfv:ak=1→fv= .slice fa fn fc∧vv= .slice va vn vc):Calls Tryz.prog (tellF d) #[.agg #[],cmdV6 ck (.slice a n c) val cw ft cid,ansV ak fv vv wd,.int .i64 id] W fun e w'=>e= .returned (.string (tellS d ck ak ss bs vs wd id))∧Below W.heap.size W w':=by
 have hsl:=hs.len;have hfl:=hf.len;have hvl:=hv.len;rcases hd with rfl|rfl|rfl
 ·show Calls Tryz.prog 212 _ _ _;rcases answer_parts hA with⟨rfl,rfl,F⟩|⟨h1,hk,h5⟩
  ·obtain⟨rfl,rfl⟩:=hfv rfl;obtain rfl:fn=n:=by rw[←hfl,←hsl];exact F.bl
   obtain rfl:vn=fn:=by rw[←hvl,←hsl];exact F.vl
   exact liTell_found a fa va _ c fc vc ss bs vs val cw ft cid wd id W hs hf hv (by rw[←hsl];exact F.l4) F.k8 F.v40
  ·have e:tellS 1 ck ak ss bs vs wd id=liTellB ak wd:=by unfold tellS;rw[if_pos rfl,if_neg h1]
   rw[e];exact liTell_plain ck _ val cw ft cid ak _ _ wd id W hk h5
 ·show Calls Tryz.prog 245 _ _ _;rw[say2]at hS;obtain⟨i0,i1,hone⟩:=frSay_id hS;rcases answer_parts hA with⟨rfl,rfl,F⟩|⟨h1,hk,h5⟩
  ·obtain⟨rfl,rfl⟩:=hfv rfl;have hn1:ss.length=1:=by have:=hone rfl;have:=F.l1;omega
   obtain⟨f,rfl⟩:=list1 (F.bl.trans hn1);obtain⟨x,rfl⟩:=list1 (F.vl.trans hn1);obtain⟨rfl,hfc,fb,fo,rfl,hfb,hfcell⟩:=one_bools hf;obtain⟨rfl,hvc,vb,vo,rfl,hvb,hvcell⟩:=one_strs hv;have hx:=F.v40 x (by simp);exact frTell_found _ val cw ft cid f x fb fo fc vb vo vc wd id W i0 i1 hx hfc hvc hfb hvb hfcell hvcell
  ·have e:tellS 2 ck ak ss bs vs wd id=headB 2 (stB ak) 0 0 (tidB ck id):=by unfold tellS;rw[if_neg (by decide),if_pos rfl,if_neg h1]
   rw[e];exact frTell_plain ck _ val cw ft cid ak _ _ wd id W h1 i0 i1
 ·show Calls Tryz.prog 252 _ _ _;rcases answer_parts hA with⟨rfl,rfl,F⟩|⟨h1,hk,h5⟩
  ·obtain⟨rfl,rfl⟩:=hfv rfl;obtain rfl:fn=n:=by rw[←hfl,←hsl];exact F.bl
   obtain rfl:vn=fn:=by rw[←hvl,←hsl];exact F.vl
   have e:tellS 3 1 1 ss bs vs wd id=lsVals vn (bs.zip vs):=by unfold tellS;rw[if_neg (by decide),if_neg (by decide),if_pos rfl,hsl]
   rw[e];exact lsTell_found 1 _ fa va _ fc vc bs vs val cw ft cid wd id W hf hv (by rw[←hsl];exact F.l1) (by rw[←hsl];exact F.l4) F.v40
  ·have e:tellS 3 ck ak ss bs vs wd id=lsTellB ak wd:=by unfold tellS;rw[if_neg (by decide),if_neg (by decide),if_neg h1]
   rw[e];exact lsTell_plain ck _ val cw ft cid ak _ _ wd id W hk h5
theorem wrong_tell (d:Int)(hd:d=1∨d=2∨d=3)(c:Cmd)(kv:Value)(W:World)(hc:CmdOk c)(hk:c.keys=[]):Calls Tryz.prog (tellF d) #[.agg #[],cmdV6 c.kind kv c.val c.word c.fatal c.id,ansV 5 (.slice none 0 0) (.slice none 0 0) c.word,.int .i64 c.id] W fun e w'=>e= .returned (.string (wrongB d c))∧Below W.heap.size W w':=by
 have h4:=hc.wrong hk;rcases hd with rfl|rfl|rfl
 ·show Calls Tryz.prog 212 _ _ _;rw[h4.1];unfold wrongB;rw[if_pos rfl];exact liTell_plain 4 kv c.val c.word c.fatal c.id 5 _ _ c.word c.id W (by omega) (fun _=>h4.2)
 ·show Calls Tryz.prog 245 _ _ _;rw[h4.1];exact frTell_plain 4 kv c.val c.word c.fatal c.id 5 _ _ c.word c.id W (by omega) hc.id0 hc.id1
 ·show Calls Tryz.prog 252 _ _ _;rw[h4.1];unfold wrongB;rw[if_neg (by decide),if_neg (by decide)];exact lsTell_plain 4 kv c.val c.word c.fatal c.id 5 _ _ c.word c.id W (by omega) (fun _=>h4.2)
def ansQ (v:QI)(x:QS):Value:=if x.c.keys=[]then ansV 5 (.slice none 0 0) (.slice none 0 0) x.c.word else ansOf x.c.kind x.fa x.re ((x.ps.map PS.yes).headD false) (.slice (some ⟨v.yb,0,none⟩) x.ps.length x.ps.length) (.slice (some ⟨v.vb,0,none⟩) x.ps.length x.ps.length)
theorem ansOf_eq (x:QS)(yv vv:Value):ansOf x.c.kind x.fa x.re ((x.ps.map PS.yes).headD false) yv vv=ansV x.ak (if x.ak=1 then yv else .slice none 0 0) (if x.ak=1 then vv else .slice none 0 0) x.wd:=by
 unfold ansOf QS.ak QS.wd;cases x.fa with
 |true=>simp
 |false=>
  cases x.re with
  |true=>simp
  |false=>
   by_cases h1:x.c.kind=1
   ·simp[h1]
   ·by_cases h2:x.c.kind=2
    ·simp[h2]
    ·cases (x.ps.map PS.yes).headD false<;>simp[h1,h2]
theorem QuAt.answers (h:QuAt W v x)(ok:QSOk d x)(W':World)(hb:Below W.heap.size W W'):Calls Tryz.prog 129 #[.pointer (some ⟨v.q,0,none⟩)] W' fun e w'=>e= .returned (ansQ v x)∧Below W'.heap.size W' w':=by
 have hq:=(hb.block v.q (blkLt h.blk)).trans h.blk;unfold qdO at hq;unfold ansQ;by_cases hk:x.c.keys=[]
 ·rw[if_pos hk];have h4:=(ok.w.cm.wrong hk).1;have hq2:=hq;rw[show(qdOf v x).k=4 from h4]at hq2;exact answer_wrong v.q _ _ _ _ _ _ _ _ _ _ W' hq2
 ·rw[if_neg hk];have hl:=ok.len;have hk0:0<x.c.keys.length:=List.length_pos_iff.2 hk;have h4:=ok.w.cm.k4;obtain⟨p,hp⟩:∃p,x.ps[0]?=some p:=⟨_,List.getElem?_eq_getElem (by omega)⟩
  have hy:W'.cell? ⟨v.yb,0,none⟩=some (.bool ((x.ps.map PS.yes).headD false)):=by
   rw[blkCell ((hb.block v.yb (blkLt h.yes)).trans h.yes) 0];unfold yesC;cases hps:x.ps with
   |nil=>rw[hps]at hp;cases hp
   |cons p ps=>simp
  exact qanswer_any v.q v.yb x.ps.length x.c.kind v.kv x.c.val x.c.word x.c.fatal x.c.id _ x.fa x.re _ _ W' hq ⟨_,_,_,rfl⟩ (ok.w.cm.right hk) (by omega) (by omega) hy
theorem QuAt.keysIn (h:QuAt W v x)(ok:QSOk d x)(hk:x.c.keys≠[]):∃b c,v.kv= .slice (some ⟨b,0,none⟩) x.c.keys.length c∧StrsIn W (some ⟨b,0,none⟩) x.c.keys.length c x.c.keys:=by
 have h4:=ok.w.cm.k4;rcases h.keys with⟨e,_⟩|⟨b,c,Z,e,e2,e3,e4,hZ,e5⟩
 ·exact absurd e hk
 ·refine⟨b,c,e3,rfl,e4,by omega,fun s hs=>?_,.inl ⟨b,0,rfl,blkLt hZ,fun i s hs=>?_⟩⟩
  ·have:=ok.w.cm.k8 s hs;unfold maxLen;omega
  ·rw[blkCell hZ (0+i),Nat.zero_add];exact e5 i s hs
theorem QuAt.tells (hd:d=1∨d=2∨d=3)(h:QuAt W v x)(ok:QSOk d x)(W':World)(hb:Below W.heap.size W W'):Calls Tryz.prog (tellF d) #[.agg #[],cmdV6 x.c.kind v.kv x.c.val x.c.word x.c.fatal x.c.id,ansQ v x,.int .i64 x.c.id] W' fun e w'=>e= .returned (.string (toldB d x))∧Below W'.heap.size W' w':=by
 unfold ansQ toldB;by_cases hk:x.c.keys=[]
 ·rw[if_pos hk,if_pos hk];exact wrong_tell d hd x.c v.kv W' ok.w.cm hk
 ·rw[if_neg hk,if_neg hk,ansOf_eq];have h4:=ok.w.cm.k4;have hl:=ok.len;obtain⟨b,c,e1,e2⟩:=h.keysIn ok hk;rw[e1];exact dial_tell d hd x.c.kind (some ⟨b,0,none⟩) x.c.keys.length c x.c.keys x.c.val x.c.word x.c.fatal x.c.id x.ak (some ⟨v.yb,0,none⟩) (some ⟨v.vb,0,none⟩) x.ps.length x.ps.length x.ps.length x.ps.length _ _ _ _ x.wd x.c.id W' (e2.later hb) ((h.bools (by omega)).later hb) ((h.strs (by omega) (fun p hp=>val_size (ok.ps p hp))).later hb) (ok.answer hk) (ok.say hd hk) (fun e=>by rw[if_pos e,if_pos e];exact⟨rfl,rfl⟩)
theorem lsFold_size (ts:List (Bool×ByteArray))(h:∀p∈ts,p.2.size≤40):(lsFold ts).size≤45*ts.length:=by
 have:∀(l:List (Bool×ByteArray)) (a:ByteArray),(∀p∈l,p.2.size≤40)→(l.foldl (fun s p=>s++tvB p) a).size≤a.size+45*l.length:=by
  intro l;induction l with
  |nil=>intro a _;simp
  |cons p l ih=>
   intro a hl;have h1:=ih (a++tvB p) (fun q hq=>hl q (by simp[hq]));have h2:=tvB_size (hl p (by simp));rw[ByteArray.size_append]at h1;simp only[List.foldl_cons,List.length_cons]
   omega
 have h0:=this ts ⟨#[]⟩ h;have e0:(ByteArray.mk #[]).size=0:=rfl;unfold lsFold;omega
theorem toldB_size (hd:d=1∨d=2∨d=3)(ok:QSOk d x):(toldB d x).size≤1000:=by
 unfold toldB;by_cases hk:x.c.keys=[]
 ·rw[if_pos hk];have:=wrongB_size (d:=d) ok.w.cm hk;rw[Array.length_toList]at this;exact this
 ·rw[if_neg hk];have hA:=ok.answer hk;have hh:∀a b c e:Int,(headB 2 a b c e).size=7:=fun a b c e=>by unfold headB;rw[strOfNums_size];rfl
  have one:∀b:UInt8,(ByteArray.mk #[b]).size=1:=fun b=>rfl
  generalize x.ps.map PS.yes=bs at hA⊢;generalize x.ps.map PS.val=vs at hA⊢;generalize x.c.keys=ss at hA⊢;generalize x.ak=ak at hA⊢;generalize x.wd=wd at hA⊢;generalize x.c.id=id at hA⊢;unfold tellS;rcases answer_parts hA with⟨rfl,e,F⟩|⟨h1,hk',h5⟩
  ·have hl4:=F.l4;have hbl:=F.bl;have hvl:=F.vl;rcases hd with rfl|rfl|rfl
   ·rw[if_pos rfl,if_pos rfl,ByteArray.size_append];have:=liFoldA_size ⟨#[]⟩ (bs.zip (ss.zip vs)) (fun p hp=>by
     have h1:=(List.of_mem_zip hp).2;have h2:=List.of_mem_zip (a:=p.2.1) (b:=p.2.2) h1;exact⟨F.k8 _ h2.1,F.v40 _ h2.2⟩)
    have hz:(bs.zip (ss.zip vs)).length≤4:=by simp;omega
    have e4:(ByteArray.mk #[101,110,100,10]).size=4:=rfl;have e0:(ByteArray.mk #[]).size=0:=rfl;unfold liFold;omega
   ·rw[if_neg (by decide),if_pos rfl,if_pos rfl,ByteArray.size_append,hh];have:(vs.headD ⟨#[]⟩).size≤40:=by
     cases vs with
     |nil=>exact Nat.zero_le _
     |cons a l=>exact F.v40 a (by simp)
    omega
   ·rw[if_neg (by decide),if_neg (by decide),if_pos rfl];have:=lsFold_size (bs.zip vs) (fun p hp=>F.v40 _ (List.of_mem_zip hp).2);have hz:(bs.zip vs).length≤4:=by simp;omega
    unfold lsVals;split
    ·omega
    ·rw[ByteArray.size_append,ByteArray.size_append,ByteArray.size_append,one,one];have:=dec100_size ss.length;omega
  ·have hw:ak=5→wd.size≤8:=h5;rcases hd with rfl|rfl|rfl
   ·rw[if_pos rfl,if_neg h1];unfold liTellB;split
    ·decide
    ·split
     ·decide
     ·split
      ·decide
      ·rw[ByteArray.size_append,ByteArray.size_append,one];have e4:(ByteArray.mk #[102,97,105,108,32]).size=5:=rfl;have:=hw (by omega);omega
   ·rw[if_neg (by decide),if_pos rfl,if_neg h1,hh];omega
   ·rw[if_neg (by decide),if_neg (by decide),if_neg h1];unfold lsTellB;split
    ·decide
    ·split
     ·decide
     ·split
      ·decide
      ·rw[ByteArray.size_append,ByteArray.size_append,one,one];have:=hw (by omega);omega
set_option maxHeartbeats 1000000
set_option maxRecDepth 100000
def tellQ (d:Int):List QS→List UInt8→List QS×List UInt8
 | [],told=>([],told)
 |x::xs,told=>if x.n=0 then tellQ d xs (told++(toldB d x).data.toList)else(x::xs,told)
theorem drop_tl {α:Type}{l:List α}{n:Nat}{x:α}{xs:List α}(h:x::xs=l.drop n):xs=l.drop (n+1):=by
 have:=congrArg List.tail h;simpa [List.tail_drop]using this
theorem cliTellP (win:Nat)(v:CliV)(s:CliQ)(w:World)(h:CliAt w win v s)(tt f:Nat)(dd:Int)(ht:v.k.t=tt)(hd:s.d=dd)(hd3:dd=1∨dd=2∨dd=3)(hm:∀w:World,(method 432 tt (.agg #[]) "Tell").run Tryz.prog w= .ok (f,.agg #[]) w)(hn:∀w:World,(nilAhead 432 tt (.agg #[]) "Tell").run Tryz.prog w= .ok (some false) w)(hcf:∀(xs:Array Value) (w:World),(callFunc f xs).run Tryz.prog w= .ok (.enter f xs) w)(hf:tellF dd=f)(hl:s.told.length+1000*s.qs.length≤100000000000)(hwn:s.qs.length≤1000):Calls Tryz.prog 89 #[.pointer (some ⟨v.k.C,0,none⟩)] w fun e w'=>e= .returned (.tuple #[])∧∃v',CliAt w' win v' {s with qs:=(tellQ s.d s.qs s.told).1,told:=(tellQ s.d s.qs s.told).2}∧v'.k.C=v.k.C∧v'.k.R=v.k.R∧Chg v.foot w w'∧Later w v.foot v'.foot∧∃n,v'.qi=v.qi.drop n∧(tellQ s.d s.qs s.told).1=s.qs.drop n:=by
 have hlt:=blkLt h.cor.blk;obtain⟨⟨C,R,ch,t,hb,wv,bp,bv,qs⟩,qi⟩:=v;obtain⟨sd,st,xs,told⟩:=s;simp only at ht hd hl hwn hlt⊢;subst ht hd;have hqk:=h.qk;simp only at hqk;subst hqk;have H0:=hide' h;obtain⟨F,hF⟩:∃F,CliV.foot ⟨⟨C,R,ch,t,hb,wv,bp,bv,qi.map (·.q)⟩,qi⟩=F:=⟨_,rfl⟩
 have HF:=hide' hF;simp only[hF]
 clear hF;clear h;go_enter Tryz.func89,Tryz.ntmps89;go_wp2_with fail
 go_loopw [2] (fun _ wr=>∃(wv' bp' bv':Value) (qi':List QI) (xs':List QS) (told':List UInt8),told'.length+1000*xs'.length≤100000000000∧xs'.length≤1000∧Hid (CorAt wr win ⟨C,R,ch,t,hb,wv',bp',bv',qi'.map (·.q)⟩ ⟨sd,st,xs'.map (·.c),told'⟩∧QusAt wr qi' xs'∧(∀x∈xs',QSOk sd x)∧(tellQ sd xs' told'=tellQ sd xs told∧∃n,qi'=qi.drop n∧xs'=xs.drop n)∧Chg F w wr∧Later w F (CliV.foot ⟨⟨C,R,ch,t,hb,wv',bp',bv',qi'.map (·.q)⟩,qi'⟩))) (fun _ wr=>waitLen wr C)
 case atStart=>exact⟨wv,bp,bv,qi,xs,told,hl,hwn,H0.out.cor,H0.out.qu,H0.out.ok,⟨rfl,0,rfl,rfl⟩,Chg.refl _ _,by rw[HF.out];exact Later.refl _ _⟩
 case round=>
  obtain⟨wv',bp',bv',qi',xs',told',hl',hwn',HJ⟩:=hrel;obtain⟨c0,c1,c2,c3,c4,cf⟩:=clCells HJ.out.1.blk;simp only at c0 c1 c2 c3 c4;have hltC:=blkLt HJ.out.1.blk;simp only at hltC;have hfin:Hid (tellQ sd xs' told'=(xs',told')→∃v':CliV,CliAt wr win v' ⟨sd,st,(tellQ sd xs told).1,(tellQ sd xs told).2⟩∧v'.k.C=C∧v'.k.R=R∧Chg F w wr∧Later w F v'.foot∧∃n,v'.qi=qi.drop n∧(tellQ sd xs told).1=xs.drop n):=fun e=>by
   obtain⟨b1,b2,b3,⟨b4,n,b5,b6⟩,b7,b8⟩:=HJ.out;refine⟨⟨⟨C,R,ch,t,hb,wv',bp',bv',qi'.map (·.q)⟩,qi'⟩,?_,rfl,rfl,b7,b8,n,b5,?_⟩
   ·rw[←b4,e];exact⟨b1,rfl,b2,b3⟩
   ·rw[←b4,e];exact b6
  cases xs' with
  |nil=>
   have hwv:∃a c,wv'= .slice a 0 c:=by
    rcases HJ.out.1.row.2 with⟨e,_⟩|⟨g,cap,cur,e,_⟩
    ·exact⟨_,_,e⟩
    ·exact⟨_,_,e⟩
   obtain⟨wa,wc,rfl⟩:=hwv;go_wp2;go_end0;exact⟨rfl,hfin.out rfl⟩
  |cons c cs=>
   obtain⟨v0,qi2,rfl⟩:∃q qi2,qi'=q::qi2:=by
    cases qi' with
    |nil=>have:=HJ.out.2.1.len;simp at this
    |cons q qs2=>exact⟨q,qs2,rfl⟩
   obtain⟨g,cap,rfl,hgc⟩:∃g cap,wv'= .slice (some ⟨g,0,none⟩) (cs.length+1) cap∧cs.length+1≤cap:=by
    rcases HJ.out.1.row.2 with⟨_,h0⟩|⟨g,cap,cur,e,_,_,h2,_⟩
    ·simp at h0
    ·simp at e h2;exact⟨g,cap,e,h2⟩
   have hqs:qi2.length=cs.length:=by have:=HJ.out.2.1.len;simpa using this
   obtain⟨q,hqq⟩:∃q,v0.q=q:=⟨_,rfl⟩
   have HQQ:=hide' hqq;have hg0:wr.cell? ⟨g,0,none⟩=some (.pointer (some ⟨q,0,none⟩)):=by
    rcases HJ.out.1.row.2 with⟨e,_⟩|⟨g',cap',cur,e,_,h1,_,_,_,h5⟩
    ·cases e
    ·simp at e;obtain⟨rfl,_⟩:=e;rw[blkCell h1 0];have h6:(cur.toList.take (((c::cs).map (·.c)).length*1))[0]?=(((v0::qi2).map (·.q)).map ptrV)[0]?:=by rw[h5]
     rw[List.getElem?_take_of_lt (by simp)]at h6;simpa [ptrV,hqq]using h6
   have hgl:g<wr.heap.size:=World.block_lt_of_cell? wr ⟨g,0,none⟩ hg0;have hQ:=HJ.out.2.1.tail.1;have hqb:=hQ.blk;rw[hqq]at hqb;unfold qdO at hqb;have HAd:=hide' (fun W (hW:Below wr.heap.size wr W)=>answered_any q _ _ _ _ _ _ _ _ _ _ _ W ((hW.block q (blkLt hqb)).trans hqb));have hqlt:=blkLt hqb;have hcok:=HJ.out.2.2.1 c (by simp);by_cases hk:c.n=0
   ·have hdk:decide (((qdOf v0 c).n:Int)=0)=true:=decide_eq_true (by show(c.n:Int)=0;omega);rw[hdk]at HAd;have htl:tellQ sd (c::cs) told'=tellQ sd cs (told'++(toldB sd c).data.toList):=by conv=>lhs;unfold tellQ;rw[if_pos hk]
    have HTL:=hide' (And.intro htl hk);have HAn:=hide' (fun W (hW:Below wr.heap.size wr W)=>hQ.answers hcok W hW);have HTt:=hide' (fun W (hW:Below wr.heap.size wr W)=>hQ.tells (d:=sd) hd3 hcok W hW);rw[hqq]at HAn;rw[hf]at HTt;unfold cmdV6 at HTt;generalize ansQ v0 c=av at HAn HTt;generalize hkv:v0.kv=kv at*;have hqb3:=hqb;unfold quO at hqb3;have q0:=blkCell hqb3 0;have q1:=blkCell hqb3 1;have q2:=blkCell hqb3 2;have q3:=blkCell hqb3 3;have q4:=blkCell hqb3 4;have q5:=blkCell hqb3 5;simp at q0 q1 q2 q3 q4 q5;rw[show(qdOf v0 c).kv=kv from hkv]at q1;change wr.cell? ⟨q,0,none⟩=some (.int .i64 c.c.kind)at q0;change wr.cell? ⟨q,2,none⟩=some (.string c.c.val)at q2;change wr.cell? ⟨q,3,none⟩=some (.string c.c.word)at q3
    change wr.cell? ⟨q,4,none⟩=some (.bool c.c.fatal)at q4;change wr.cell? ⟨q,5,none⟩=some (.int .i64 c.c.id)at q5;obtain⟨⟨rv,ru,hD,_⟩,_⟩:=HJ.out.1.rd;simp only at hD;unfold rdO at hD;have r0:=blkCell hD 0;simp at r0;have hRl:=blkLt hD;have hszW:=toldB_size (d:=sd) hd3 hcok;generalize hout:toldB sd c=out at*;have HOUT:=hide' hout;have HBw:Hid (∀W,Below wr.heap.size wr W→Calls Tryz.prog 128 #[.pointer (some ⟨C,3,none⟩),.string out] W fun e w'=>(∃v,e= .returned v)∧∃v',w'.heap[C]?=some (clO R ch (.slice (some ⟨g,0,none⟩) (cs.length+1) cap) (.pointer (some ⟨C,3,none⟩)) v')∧BldRow w' v' (told'++out.data.toList)∧Chg (C::bv'.ownBlock.toList) W w'∧(v'.ownBlock=bv'.ownBlock∨∃g,v'.ownBlock=some g∧W.heap.size≤g)):=fun W hW=>by
     have hbl:=HJ.out.1.bld;refine(bld_write C 3 125 5 _ bv' told' out W ((hW.block C hltC).trans HJ.out.1.blk) rfl (by omega) lies125 (by decide) ?_ rfl (hbl.other (fun g hg=>by obtain⟨cur,fz,hc⟩:=hbl.blk hg;exact hW.block g (blkLt hc))) (by simp at hl';have hsz:out.size≤1000:=hszW;omega)).mono ?_
     ·rcases HJ.out.1.bpv with h|h
      ·exact .inl (by simp only at h;rw[h];rfl)
      ·exact .inr (by simp only at h;rw[h];rfl)
     ·rintro e w' ⟨he,v',h1,h2,h3,h4⟩;exact⟨he,v',h1,h2,h3,h4⟩
    have hRn:R∉C::bv'.ownBlock.toList:=by
     intro hm';rcases List.mem_cons.1 hm' with h|h
     ·have hb0:=HJ.out.1.blk;simp only at hb0;rw[←h,hD]at hb0;unfold clO at hb0;cases hb0
     ·obtain⟨cur,fz,hc⟩:=HJ.out.1.bld.blk (mem_own h);rw[hD]at hc;cases hc
    have hqn:q∉C::bv'.ownBlock.toList:=by
     intro hm';rcases List.mem_cons.1 hm' with h|h
     ·have hb0:=HJ.out.1.blk;simp only at hb0;rw[←h,hqb3]at hb0;unfold clO at hb0;cases hb0
     ·obtain⟨cur,fz,hc⟩:=HJ.out.1.bld.blk (mem_own h);rw[hqb3]at hc;cases hc
    clear hdk htl hqb hqb3 hQ hcok hD hout hk hkv hqq;go_wp2_with fail
    go_at_call 127;refine(HAd.out _ (Below.refl _ _)).mono ?_;rintro e w1 ⟨rfl,hw1⟩;subst hw1;go_wp2_with fail
    go_region_held3 (fun W'=>W'.cell? ⟨C,0,none⟩=some (.pointer (some ⟨R,0,none⟩))∧W'.cell? ⟨R,0,none⟩=some (.iface t (.agg #[]))∧W'.cell? ⟨q,0,none⟩=some (.int .i64 c.c.kind)∧W'.cell? ⟨q,1,none⟩=some kv∧W'.cell? ⟨q,2,none⟩=some (.string c.c.val)∧W'.cell? ⟨q,3,none⟩=some (.string c.c.word)∧W'.cell? ⟨q,4,none⟩=some (.bool c.c.fatal)∧W'.cell? ⟨q,5,none⟩=some (.int .i64 c.c.id)) (go_keep) (first
     |(go_at_call 129;refine(HAn.out _ ?hx).mono ?_;(case hx=>repeat(first|with_reducible exact Below.refl _ _|with_reducible refine Below.drew ?_));rintro e w3 ⟨rfl,hb3⟩;have HB3:=hide' (below_undrew hb3);have x0:=(HB3.out.cell (p:=⟨C,0,none⟩) hltC).trans c0;have x1:=(HB3.out.cell (p:=⟨R,0,none⟩) hRl).trans r0;have x2:=(HB3.out.cell (p:=⟨q,0,none⟩) hqlt).trans q0;have x3:=(HB3.out.cell (p:=⟨q,1,none⟩) hqlt).trans q1;have x4:=(HB3.out.cell (p:=⟨q,2,none⟩) hqlt).trans q2;have x5:=(HB3.out.cell (p:=⟨q,3,none⟩) hqlt).trans q3;have x6:=(HB3.out.cell (p:=⟨q,4,none⟩) hqlt).trans q4;have x7:=(HB3.out.cell (p:=⟨q,5,none⟩) hqlt).trans q5;have hltC3:C<w3.heap.size:=Nat.lt_of_lt_of_le hltC HB3.out.size;have hRl3:R<w3.heap.size:=Nat.lt_of_lt_of_le hRl HB3.out.size;have hqlt3:q<w3.heap.size:=Nat.lt_of_lt_of_le hqlt HB3.out.size;clear hb3 c0 r0 q0 q1 q2 q3 q4 q5)
     |(with_reducible (show Calls Tryz.prog f _ _ _);refine(HTt.out _ ?hx).mono ?_;(case hx=>exact HB3.out);rintro e w4 ⟨rfl,hb4⟩;have HB4:=hide' hb4;have y0:=(HB4.out.cell (p:=⟨C,0,none⟩) hltC3).trans x0;have y1:=(HB4.out.cell (p:=⟨R,0,none⟩) hRl3).trans x1;have y2:=(HB4.out.cell (p:=⟨q,0,none⟩) hqlt3).trans x2;have y3:=(HB4.out.cell (p:=⟨q,1,none⟩) hqlt3).trans x3;have y4:=(HB4.out.cell (p:=⟨q,2,none⟩) hqlt3).trans x4;have y5:=(HB4.out.cell (p:=⟨q,3,none⟩) hqlt3).trans x5;have y6:=(HB4.out.cell (p:=⟨q,4,none⟩) hqlt3).trans x6;have y7:=(HB4.out.cell (p:=⟨q,5,none⟩) hqlt3).trans x7;clear hb4 x0 x1 x2 x3 x4 x5 x6 x7)
     |(go_at_call 128;refine(HBw.out _ ?hx).mono ?_;(case hx=>exact HB3.out.trans (HB4.out.mono HB3.out.size));rintro e w5 ⟨⟨ev,rfl⟩,v5,h1,h2,h3,h4⟩;have z0:=(clCells h1).1;have z1:=(World.cell?_of_block (a:=⟨R,0,none⟩) (h3.block R (Nat.lt_of_lt_of_le hRl3 HB4.out.size) hRn)).trans y1;have z2:=(World.cell?_of_block (a:=⟨q,0,none⟩) (h3.block q (Nat.lt_of_lt_of_le hqlt3 HB4.out.size) hqn)).trans y2;have z3:=(World.cell?_of_block (a:=⟨q,1,none⟩) (h3.block q (Nat.lt_of_lt_of_le hqlt3 HB4.out.size) hqn)).trans y3;have z4:=(World.cell?_of_block (a:=⟨q,2,none⟩) (h3.block q (Nat.lt_of_lt_of_le hqlt3 HB4.out.size) hqn)).trans y4;have z5:=(World.cell?_of_block (a:=⟨q,3,none⟩) (h3.block q (Nat.lt_of_lt_of_le hqlt3 HB4.out.size) hqn)).trans y5;have z6:=(World.cell?_of_block (a:=⟨q,4,none⟩) (h3.block q (Nat.lt_of_lt_of_le hqlt3 HB4.out.size) hqn)).trans y6;have z7:=(World.cell?_of_block (a:=⟨q,5,none⟩) (h3.block q (Nat.lt_of_lt_of_le hqlt3 HB4.out.size) hqn)).trans y7;have H5:=hide' (And.intro h1 (And.intro h2 (And.intro h3 h4)));clear h1 h2 h3 h4 y0 y1 y2 y3 y4 y5 y6 y7)
     |fail)
    rename_i hHeld;clear hHeld;have hk4:=HJ.out.1.below (HB3.out.trans (HB4.out.mono HB3.out.size));have hk5:=hk4.wrote v5 (told'++out.data.toList) H5.out.1 H5.out.2.1 H5.out.2.2.1 H5.out.2.2.2;have HK5:=hide' (And.intro hk5 (Chg.of_below (M:=[]) (HB3.out.trans (HB4.out.mono HB3.out.size))));have hrow5:=hk5.1.row;simp only[List.map_cons,List.length_cons,List.length_map]at hrow5;rw[←hqs,HQQ.out]at hrow5;have hql:(qi2.map (·.q)).length=qi2.length:=List.length_map _;rw[←hql]at hrow5;have HDl:=hide' (delFirst g cap q (qi2.map (·.q)) w5 hrow5);rw[hql,hqs]at HDl;have f2:=(clCells H5.out.1).2.2.1;have hlt5:=blkLt H5.out.1;clear hrow5 hk4 hk5 z0 z1 z2 z3 z4 z5 z6 z7 c1 c2 c3 c4 cf hg0 hgl;go_wp2_with fail
    go_at_call 130;refine HDl.out.mono ?_;rintro e w6 ⟨rfl,h6,k6⟩;have hC6:=k6.keep H5.out.1 (by simp;intro e;exact HK5.out.1.1.nC.2.2.2.1 (by simp only[e];rfl));have d2:=(clCells hC6).2.2.1;have df:=(clCells hC6).2.2.2.2.2 2;have hlt6:=blkLt hC6;have H6:=hide' (And.intro hC6 (And.intro h6 k6));clear hC6 h6 k6;go_upto_region 4 with fail
    obtain⟨buf,sa,ra,tm,hch5,hbs⟩:=HK5.out.1.1.chan;simp only[List.map_cons,List.length_cons,List.length_map]at hch5 hbs;have hgch:=(HK5.out.1.1.nW (g:=g) rfl).1;have hcC:=HK5.out.1.1.nC.1;simp only at hgch hcC;have hch6:=H6.out.2.2.keep hch5 (by simp;exact fun e=>hgch e.symm);have hch7:(w6.setCell ⟨C,2,none⟩ (.slice (some ⟨g,0,none⟩) cs.length cap)).heap[ch]?=some (.chan win buf false sa ra tm):=(Below.heap_setCell w6 ⟨C,2,none⟩ _ ch (fun e=>hcC e.symm)).trans hch6;have hC7:=blkSet (i:=2) H6.out.1 (.slice (some ⟨g,0,none⟩) cs.length cap);have e1:=(clCells (R:=R) (ch:=ch) (wv:= .slice (some ⟨g,0,none⟩) cs.length cap) (bp:= .pointer (some ⟨C,3,none⟩)) (bv:=v5) hC7).2.1;have HC7:=hide' hch7;clear hch7 hC7 hch5 hch6 hgch hcC
    generalize hw7:w6.setCell ⟨C,2,none⟩ (.slice (some ⟨g,0,none⟩) cs.length cap)=w7 at*;refine wp_of_reg ?_;show RegWp _ _ [0,1,2,3,4] _ _ _;refine reg_value (v:= .pointer (some ⟨C,0,none⟩)) (w':=w7) rfl rfl (by simp[go_sem,execOp,Act.eval]) ?_;refine reg_value (v:= .pointer (some ⟨C,0,none⟩)) (w':=w7) rfl rfl (by simp[go_sem,execOp,Act.eval,Act.put]) ?_;refine reg_value (v:= .pointer (some ⟨C,1,none⟩)) (w':=w7) rfl rfl (by simp[go_sem,execOp,Act.eval,Act.put]) ?_;refine reg_value (v:= .chan (some ch)) (w':=w7) rfl rfl (by simp[go_sem,execOp,Act.eval,Act.put,e1]) ?_;refine reg_recv (c:=ch) (z:= .agg #[]) rfl rfl (by simp[go_sem,execOp,rcase,Act.eval,Act.put]) HC7.out (by omega) ?_;refine reg_end ?_
    simp only[Act.put]
    have hpop:=HK5.out.1.1.popped (c:=c.c) (cs:=cs.map (·.c)) (q:=v0.q) (qs:=qi2.map (·.q)) (g:=g) (cap:=cap) rfl rfl (by rw[hql,hqs]) (by rw[hql,hqs];exact H6.out.2.1) H6.out.2.2 (buf.extract 1 buf.size) sa (ra+1) tm (by simp;omega) rfl;simp only[hql,hqs,hw7]at hpop;have hml:=hpop.1.waitLen;simp only[List.length_map]at hml;have hml0:=HJ.out.1.waitLen;simp only[List.map_cons,List.length_cons,List.length_map]at hml0;have HP:=hide' hpop;clear hpop;generalize w7.setChan ch win (buf.extract 1 buf.size) false sa (ra+1) tm=w8 at*;have HM:=hide' (show waitLen w8 C<waitLen w1 C by omega);clear hml hml0;obtain⟨b1,b2,b3,⟨b4,n,b5,b6⟩,b7,b8⟩:=HJ.out;have sz14:=HK5.out.2.size;have hww1:w.heap.size≤w1.heap.size:=b7.size
    have hqu8:QusAt w8 qi2 cs:=by
     refine b2.tail.2.keep (fun b hb=>?_);obtain⟨Z,T,hZ,hT⟩:=b2.tail.2.kind b hb;have hna:=b1.apart hZ (by rcases hT with e|e|e<;>(subst e;decide));have hbl:=blkLt hZ;have h45:=HK5.out.1.2.1.block b (Nat.lt_of_lt_of_le hbl sz14) hna;have h14:=HK5.out.2.block b hbl (by simp);have h58:=HP.out.2.1.block b (Nat.lt_of_lt_of_le hbl (Nat.le_trans sz14 HK5.out.1.2.1.size)) (fun hm=>by
      rcases HK5.out.1.2.2 b hm with h9|h9
      ·exact hna h9
      ·have:=Nat.lt_of_lt_of_le hbl sz14;omega)
     exact h58.trans (h45.trans h14)
    have hl1:Later w F (CliI.foot ⟨C,R,ch,t,hb,.slice (some ⟨g,0,none⟩) (cs.length+1) cap,bp',bv',(v0::qi2).map (·.q)⟩):=fun b hb=>b8 b (List.mem_append.2 (.inl hb))
    have hl5:=hl1.trans HK5.out.1.2.2 (Nat.le_trans hww1 sz14);have hchg:=((b7.trans HK5.out.2 (fun b hm=>by cases hm)).trans HK5.out.1.2.1 hl1).trans HP.out.2.1 hl5;have hl8:Later w F (CliV.foot ⟨⟨C,R,ch,t,hb,.slice (some ⟨g,0,none⟩) cs.length cap,.pointer (some ⟨C,3,none⟩),v5,qi2.map (·.q)⟩,qi2⟩):=fun b hb=>by
     rcases List.mem_append.1 hb with hb|hb
     ·rw[HP.out.2.2]at hb;exact hl5 b hb
     ·exact b8 b (List.mem_append.2 (.inr (by rw[feetQ_cons];exact List.mem_append.2 (.inr hb))))
    have hbd:(told'++out.data.toList).length+1000*cs.length≤100000000000:=by
     rw[List.length_append];have h9:out.data.toList.length≤1000:=by rw[Array.length_toList];exact hszW
     have h10:told'.length+1000*(cs.length+1)≤100000000000:=hl';clear hl' hwn' hbs hszW;omega
    have hbd2:cs.length≤1000:=by simp only[List.length_cons]at hwn';omega
    refine⟨?_,HM.out⟩;(repeat apply Exists.intro)
    refine⟨?_,rfl⟩;exact⟨_,_,_,qi2,cs,told'++out.data.toList,hbd,hbd2,HP.out.1,hqu8,fun x hx=>b3 x (List.mem_cons_of_mem _ hx),⟨HTL.out.1.symm.trans b4,n+1,drop_tl b5,drop_tl b6⟩,hchg,hl8⟩
   ·have hdk:decide (((qdOf v0 c).n:Int)=0)=false:=decide_eq_false (by show¬(c.n:Int)=0;omega);rw[hdk]at HAd;have htl:tellQ sd (c::cs) told'=(c::cs,told'):=by unfold tellQ;rw[if_neg hk]
    have HTL:=hide' htl;clear hdk hk htl hqb hQ hcok;go_wp2_with fail
    go_at_call 127;refine(HAd.out _ (Below.refl _ _)).mono ?_;rintro e w1 ⟨rfl,hw1⟩;subst hw1;go_wp2;go_end0;exact⟨rfl,hfin.out HTL.out⟩
theorem cliTell1 (win:Nat)(v:CliV)(s:CliQ)(w:World)(h:CliAt w win v s)(ht:v.k.t=160)(hd:s.d=1)(hl:s.told.length+1000*s.qs.length≤100000000000)(hwn:s.qs.length≤1000):
 Calls Tryz.prog 89 #[.pointer (some ⟨v.k.C,0,none⟩)] w fun e w'=>e= .returned (.tuple #[])∧∃v',CliAt w' win v' {s with qs:=(tellQ s.d s.qs s.told).1,told:=(tellQ s.d s.qs s.told).2}∧v'.k.C=v.k.C∧v'.k.R=v.k.R∧Chg v.foot w w'∧Later w v.foot v'.foot∧∃n,v'.qi=v.qi.drop n∧(tellQ s.d s.qs s.told).1=s.qs.drop n:=cliTellP win v s w h 160 212 1 ht hd (by omega) m_tell1 (fun w=>by kernel_rfl) (fun xs w=>by simp[callFunc,go_sem,Tryz.func212];kernel_rfl) rfl hl hwn
theorem cliTell2 (win:Nat)(v:CliV)(s:CliQ)(w:World)(h:CliAt w win v s)(ht:v.k.t=161)(hd:s.d=2)(hl:s.told.length+1000*s.qs.length≤100000000000)(hwn:s.qs.length≤1000):
 Calls Tryz.prog 89 #[.pointer (some ⟨v.k.C,0,none⟩)] w fun e w'=>e= .returned (.tuple #[])∧∃v',CliAt w' win v' {s with qs:=(tellQ s.d s.qs s.told).1,told:=(tellQ s.d s.qs s.told).2}∧v'.k.C=v.k.C∧v'.k.R=v.k.R∧Chg v.foot w w'∧Later w v.foot v'.foot∧∃n,v'.qi=v.qi.drop n∧(tellQ s.d s.qs s.told).1=s.qs.drop n:=cliTellP win v s w h 161 245 2 ht hd (by omega) m_tell2 (fun w=>by kernel_rfl) (fun xs w=>by simp[callFunc,go_sem,Tryz.func245];kernel_rfl) rfl hl hwn
theorem cliTell3 (win:Nat)(v:CliV)(s:CliQ)(w:World)(h:CliAt w win v s)(ht:v.k.t=162)(hd:s.d=3)(hl:s.told.length+1000*s.qs.length≤100000000000)(hwn:s.qs.length≤1000):
 Calls Tryz.prog 89 #[.pointer (some ⟨v.k.C,0,none⟩)] w fun e w'=>e= .returned (.tuple #[])∧∃v',CliAt w' win v' {s with qs:=(tellQ s.d s.qs s.told).1,told:=(tellQ s.d s.qs s.told).2}∧v'.k.C=v.k.C∧v'.k.R=v.k.R∧Chg v.foot w w'∧Later w v.foot v'.foot∧∃n,v'.qi=v.qi.drop n∧(tellQ s.d s.qs s.told).1=s.qs.drop n:=cliTellP win v s w h 162 252 3 ht hd (by omega) m_tell3 (fun w=>by kernel_rfl) (fun xs w=>by simp[callFunc,go_sem,Tryz.func252];kernel_rfl) rfl hl hwn
end Go.Proofs.YtlonjggfnleolaaGreatDoor
namespace Go.Proofs.YtlonjggfnleolaaGreatDoor
open Go.RowKit Go.Shelf
set_option linter.unusedVariables false
set_option maxHeartbeats 2000000
set_option maxRecDepth 100000
theorem sendDown_any (S nx m C q i:Nat)(iv:Value)(iu:Int)(ip ic:Bool)(bp bv:Value)(k:Int)(kv:Value)(val wd:ByteArray)(ft:Bool)(cid:Int)(n:Nat)(fa re:Bool)(yv vv:Value)(w:World)(hS:w.heap[S]?=some (svO true nx m iv iu ip ic bp bv))(hq:w.heap[q]?=some (quO k kv val wd ft cid ((n+1:Nat):Int) fa re yv vv))(hn:n≤1000):Calls Tryz.prog 132 #[.pointer (some ⟨S,0,none⟩),partV C q i] w fun e w'=>e= .returned (.tuple #[])∧w'.heap[q]?=some (quO k kv val wd ft cid (n:Int) true re yv vv)∧Chg [q] w w':=by
 have c0:=(svCells hS).1;have hlt:=blkLt hS;have hSn:¬S=w.heap.size:=by omega
 have hB:Hid (∀O,Below w.heap.size w (w.alloc O)):=fun O=>(Below.refl _ _).alloc (Nat.le_refl _) O
 have HQ:=hide' (fun O=>qfail_any q k kv val wd ft cid n fa re yv vv (w.alloc O) (((hB.out O).block q (blkLt hq)).trans hq) hn);clear hS hq;unfold partV;go_enter Tryz.func132,Tryz.ntmps132;go_wp2_with fail
 go_at_call 136;refine(HQ.out _).mono ?_;rintro e w1 ⟨rfl,h1,k1⟩;have H1:=hide' (And.intro h1 k1);clear h1 k1;go_wp2;((try simp only[Exit.inBlock,Exit.then]);refine bodyPost_ret (results_none rfl _ _ _) rfl ?_)
 exact⟨rfl,H1.out.1,⟨H1.out.2.os,H1.out.2.tape,H1.out.2.output,Nat.le_trans (hB.out _).size H1.out.2.size,fun b hb hn=>(H1.out.2.block b (Nat.lt_of_lt_of_le hb (hB.out _).size) hn).trans ((hB.out _).block b hb)⟩⟩
theorem sendUp_any (S nx m j0 C q kb kn kc i:Nat)(iv:Value)(iu:Int)(ip ic:Bool)(bp bv:Value)(bs:List UInt8)(l:List (Nat×Value))(k:Int)(val wd key:ByteArray)(ft:Bool)(cid:Int)(n:Int)(fa re:Bool)(yv vv:Value)(w:World)(hS:w.heap[S]?=some (svO false nx m iv iu ip ic bp bv))(hnx:nx<65536)(hm:MapS w m l)(hv:∀p∈l,∃C q i,p.2=partV C q i)(hk0:∀p∈l,p.1≠(nx+j0) % 65536)(hy:∀j,j<j0→∃p∈l,p.1=(nx+j) % 65536)(hq:w.heap[q]?=some (quO k (.slice (some ⟨kb,0,none⟩) kn kc) val wd ft cid n fa re yv vv))(hi:i<kn)(hkc:kn≤kc)(hkm:kn≤1000000)(hkb:∃Z,w.heap[kb]?=some (.cells Z 9 (0,0)))(hkey:w.cell? ⟨kb,i,none⟩=some (.string key))(hk:k=1∨k=2∨k=3)(hks:key.size≤8)(hvs:val.size≤40)(hbp:bp= .pointer none∨bp= .pointer (some ⟨S,7,none⟩))(hR:BldRow w bv bs)(hlen:bs.length+1000≤140737488355328):Calls Tryz.prog 132 #[.pointer (some ⟨S,0,none⟩),partV C q i] w fun e w'=>e= .returned (.tuple #[])∧∃bv',w'.heap[S]?=some (svO false ((nx+j0+1) % 65536) m iv iu ip ic (.pointer (some ⟨S,7,none⟩)) bv')∧MapS w' m (l++[((nx+j0) % 65536,partV C q i)])∧BldRow w' bv' (bs++(sentB k key val ((nx+j0) % 65536)).data.toList)∧Chg (S::m::bv.ownBlock.toList) w w'∧(bv'.ownBlock=bv.ownBlock∨∃g,bv'.ownBlock=some g∧w.heap.size≤g):=by
 obtain⟨O1,hO1⟩:∃O,O=Obj.cells #[.pointer (some ⟨C,0,none⟩),.pointer (some ⟨q,0,none⟩),.int .i64 (i:Int)] 222:=⟨_,rfl⟩
 have B0:Below w.heap.size w (w.alloc O1):=(Below.refl _ _).alloc (Nat.le_refl _) _;have hX:=blkNew w O1;have hS1:=(B0.block S (blkLt hS)).trans hS;have hm1:=hm.other (B0.block m hm.lt);have c0:=(svCells hS).1;have hlt:=blkLt hS;have hSn:¬S=w.heap.size:=by omega
 have HFr:=hide' (freeID_any S nx m j0 false iv iu ip ic bp bv l (w.alloc O1) hS1 hnx hm1.at_ hv hk0 hy);have HW:=hide' (And.intro B0 (And.intro hX (And.intro hS1 (And.intro hm1 (And.intro hS (And.intro hm (And.intro hq (And.intro hkb (And.intro hkey hR)))))))));obtain⟨id,hid⟩:∃id,(nx+j0) % 65536=id:=⟨_,rfl⟩
 obtain⟨nx2,hnx2⟩:∃nx2,(nx+j0+1) % 65536=nx2:=⟨_,rfl⟩
 have hidl:id<65536:=by omega
 rw[hid]at HFr hk0⊢;rw[hnx2]at HFr⊢;have HK:=hide' (And.intro hk0 hv);clear hid hnx2 hy hk0 hv B0 hX hS1 hm1 hS hm hq hkb hkey hR;unfold partV;go_enter Tryz.func132,Tryz.ntmps132;go_wp2_with fail
 rw[←hO1];obtain⟨w0,hw0⟩:∃w0,w.alloc O1=w0:=⟨_,rfl⟩
 rw[hw0]at HFr HW⊢;go_at_call 160;refine HFr.out.mono ?_;rintro e w1 ⟨rfl,hS2,k2⟩;obtain⟨B0,hX,hS1,hm1,hS,hm,hq,hkb,hkey,hR⟩:=HW.out;have hXS:w.heap.size≠S:=fun e=>hSn e.symm
 have hmS:m≠S:=fun e=>by
  obtain⟨es,clock,h1,_⟩:=hm;rw[e,hS]at h1;unfold svO at h1;cases h1
 have hX2:=k2.keep hX (by simpa using hXS);rw[hO1]at hX2;have hm2:=hm1.other (k2.block m hm1.lt (by simpa using hmS));obtain⟨w2,hup,hm3,k3,hs3⟩:=MapS.update w1.drew m id (partV C q i) l hm2 HK.out.1;have hmX:m≠w.heap.size:=fun e=>by
  obtain⟨es,clock,h1,_⟩:=hm2;rw[e,hX2]at h1;cases h1
 have hX3:=k3.keep hX2 (by simpa using fun e=>hmX e.symm);have hS3:=k3.keep hS2 (by simpa using fun e=>hmS e.symm);have d2:=(svCells hS2).2.2.1;have x0:=blkCell hX2 0;have x1:=blkCell hX2 1;have x2:=blkCell hX2 2;simp at x0 x1 x2;have hl2:=blkLt hS2;have hlX:=blkLt hX2;have k2':Chg [S] w w1:=⟨k2.os.trans B0.os,k2.tape.trans B0.tape,k2.output.trans B0.output,Nat.le_trans B0.size k2.size,fun b hb hn=>(k2.block b (Nat.lt_of_lt_of_le hb B0.size) hn).trans (B0.block b hb)⟩
 have H3:=hide' (And.intro k2' (And.intro hX3 (And.intro hS3 (And.intro hm3 (And.intro k3 (And.intro hmS hs3))))));have mixed:Tryz.prog.follows .mixedOrders=true:=by kernel_rfl
 unfold partV at hup;have hqS:q≠S:=fun e=>by rw[e,hS]at hq;unfold quO svO at hq;cases hq
 have hqm:q≠m:=fun e=>by obtain⟨es,clock,h1,_⟩:=hm;rw[e,h1]at hq;unfold quO at hq;cases hq
 have two:∀{b:Nat} {o:Obj},w.heap[b]?=some o→b≠S→b≠m→w2.heap[b]?=some o:=fun hb h1 h2=>k3.keep (a:=w1.drew) (k2'.keep hb (by simpa using h1)) (by simpa using h2)
 have hq3:=two hq hqS hqm;obtain⟨Zk,hZk⟩:=hkb;have hkS:kb≠S:=fun e=>by rw[e,hS]at hZk;unfold svO at hZk;cases hZk
 have hkm':kb≠m:=fun e=>by obtain⟨es,clock,h1,_⟩:=hm;rw[e,h1]at hZk;cases hZk
 have hZ3:=two hZk hkS hkm';have hkey3:w2.cell? ⟨kb,i,none⟩=some (.string key):=(World.cell?_of_block (a:=⟨kb,i,none⟩) (hZ3.trans hZk.symm)).trans hkey;have hRS:bv.ownBlock≠some S∧bv.ownBlock≠some m:=by
  refine⟨fun e=>?_,fun e=>?_⟩
  ·obtain⟨cur,fz,hc⟩:=hR.blk e;rw[hS]at hc;unfold svO at hc;cases hc
  ·obtain⟨cur,fz,hc⟩:=hR.blk e;obtain⟨es,clock,h1,_⟩:=hm;rw[h1]at hc;cases hc
 have hR3:BldRow w2 bv bs:=hR.other (fun g hg=>by
  obtain⟨cur,fz,hc⟩:=hR.blk hg;exact(two hc (fun e=>hRS.1 (by rw[hg,e])) (fun e=>hRS.2 (by rw[hg,e]))).trans hc.symm)
 have HPc:Hid (∀W,Below w2.heap.size w2 W→Calls Tryz.prog 162 #[partV C q i] W fun e w'=>∃b',W.heap.size≤b'∧e= .returned (.agg #[.int .i64 k,.slice (some ⟨b',0,none⟩) 1 1,.string val,.string ⟨#[]⟩,.bool false,.int .i64 0])∧w'.heap[b']?=some (.cells #[.string key] 9 (0,0))∧Below W.heap.size W w'):=fun W hW=>
  partCommand_any C q kb kn kc i k val wd key ft cid n fa re yv vv W ((hW.block q (blkLt hq3)).trans hq3) hi hkc hkm ((hW.cell (p:=⟨kb,i,none⟩) (blkLt hZ3)).trans hkey3)
 have HTs:=hide' (fun(W:World) (b:Nat) (hb:W.heap[b]?=some (.cells #[.string key] 9 (0,0)))=>toServer_any k b key val id W hk hb hks hvs hidl);have hsl:(sentB k key val id).size≤1000:=by
  have h7:(headB 1 k key.size val.size id).size=7:=by unfold headB;rw[strOfNums_size];rfl
  have:(sentB k key val id).size=(headB 1 k key.size val.size id).size+key.size+val.size:=by unfold sentB;rw[ByteArray.size_append,ByteArray.size_append]
  omega
 have hXn:w.heap.size∉S::bv.ownBlock.toList:=by
  intro hm';rcases List.mem_cons.1 hm' with h|h
  ·exact hXS h
  ·have hb':bv.ownBlock=some w.heap.size:=by
    cases hbo:bv.ownBlock with
    |none=>rw[hbo]at h;cases h
    |some g=>rw[hbo]at h;simp at h;rw[h]
   obtain⟨cur,fz,hc⟩:=hR.blk hb';have:=blkLt hc;omega
 have hmn:m∉S::bv.ownBlock.toList:=by
  intro hm';rcases List.mem_cons.1 hm' with h|h
  ·exact hmS h
  ·cases hbo:bv.ownBlock with
   |none=>rw[hbo]at h;cases h
   |some g=>rw[hbo]at h;simp at h;exact hRS.2 (by rw[hbo,h])
 have HBw:Hid (∀W,Below w2.heap.size w2 W→Calls Tryz.prog 128 #[.pointer (some ⟨S,7,none⟩),.string (sentB k key val id)] W fun e w'=>(∃v,e= .returned v)∧∃v',w'.heap[S]?=some (svO false nx2 m iv iu ip ic (.pointer (some ⟨S,7,none⟩)) v')∧BldRow w' v' (bs++(sentB k key val id).data.toList)∧Chg (S::bv.ownBlock.toList) W w'∧(v'.ownBlock=bv.ownBlock∨∃g,v'.ownBlock=some g∧W.heap.size≤g)):=fun W hW=>by
  refine(bld_write S 7 143 9 _ bv bs (sentB k key val id) W ((hW.block S (blkLt hS3)).trans hS3) rfl (by omega) lies143 (by decide) ?_ rfl (hR3.other (fun g hg=>by obtain⟨cur,fz,hc⟩:=hR3.blk hg;exact hW.block g (blkLt hc))) (by omega)).mono ?_
  ·rcases hbp with h|h
   ·exact .inl (by rw[h];rfl)
   ·exact .inr (by rw[h];rfl)
  ·rintro e w' ⟨he,v',h1,h2,h3,h4⟩;exact⟨he,v',h1,h2,h3,h4⟩
 have y0:=blkCell hX3 0;have y1:=blkCell hX3 1;have y2:=blkCell hX3 2;simp at y0 y1 y2;have hlX3:=blkLt hX3;have hlS3:=blkLt hS3;have hwid:=wrapid id hidl;clear B0 hX hS1 hm1 hS hm hq hkey hR hX2 hm2 hX3 hS3 hS2 k2 k2' k3 hm3 c0 two hq3 hZk hZ3 hkey3 hR3 hqS hqm hkS hkm';generalize hout:sentB k key val id=out at*;have HOUT:=hide' hout;clear hout;go_wp2;go_region
 go_wp2_with fail
 unfold partV at HPc;go_region_held3 (fun W'=>W'.cell? ⟨w.heap.size,0,none⟩=some (.pointer (some ⟨C,0,none⟩))∧W'.cell? ⟨w.heap.size,1,none⟩=some (.pointer (some ⟨q,0,none⟩))∧W'.cell? ⟨w.heap.size,2,none⟩=some (.int .i64 (i:Int))) (go_keep) (first
  |(go_at_call 162;refine(HPc.out _ ?hx).mono ?_;(case hx=>repeat(first|with_reducible exact Below.refl _ _|with_reducible refine Below.drew ?_));rintro e w3 ⟨b',hb',rfl,hbk,hb3⟩;have HB3:=hide' (And.intro (below_undrew hb3) hbk);have z0:=(HB3.out.1.cell (p:=⟨w.heap.size,0,none⟩) hlX3).trans y0;have z1:=(HB3.out.1.cell (p:=⟨w.heap.size,1,none⟩) hlX3).trans y1;have z2:=(HB3.out.1.cell (p:=⟨w.heap.size,2,none⟩) hlX3).trans y2;have hlX4:w.heap.size<w3.heap.size:=Nat.lt_of_lt_of_le hlX3 HB3.out.1.size;have hlS4:S<w3.heap.size:=Nat.lt_of_lt_of_le hlS3 HB3.out.1.size;clear hb3 hbk hb' y0 y1 y2)
  |(go_at_call 161;refine(HTs.out _ b' ?hx).mono ?_;(case hx=>exact HB3.out.2);rintro e w4 ⟨rfl,hb4⟩;have HB4:=hide' hb4;have u0:=(HB4.out.cell (p:=⟨w.heap.size,0,none⟩) hlX4).trans z0;have u1:=(HB4.out.cell (p:=⟨w.heap.size,1,none⟩) hlX4).trans z1;have u2:=(HB4.out.cell (p:=⟨w.heap.size,2,none⟩) hlX4).trans z2;clear hb4 z0 z1 z2)
  |(go_at_call 128;refine(HBw.out _ ?hx).mono ?_;(case hx=>exact HB3.out.1.trans (HB4.out.mono HB3.out.1.size));rintro e w5 ⟨⟨ev,rfl⟩,v',h1,h2,h3,h4⟩;have H5:=hide' (And.intro h1 (And.intro h2 (And.intro h3 h4)));have t0:=(World.cell?_of_block (a:=⟨w.heap.size,0,none⟩) (h3.block w.heap.size (Nat.lt_of_lt_of_le hlX4 HB4.out.size) hXn)).trans u0;have t1:=(World.cell?_of_block (a:=⟨w.heap.size,1,none⟩) (h3.block w.heap.size (Nat.lt_of_lt_of_le hlX4 HB4.out.size) hXn)).trans u1;have t2:=(World.cell?_of_block (a:=⟨w.heap.size,2,none⟩) (h3.block w.heap.size (Nat.lt_of_lt_of_le hlX4 HB4.out.size) hXn)).trans u2;clear h1 h2 h3 h4 u0 u1 u2)
  |fail)
 all_goals go_wp2
 go_end0;obtain⟨k2',hX3,hS3,hm3,k3,_,hs3'⟩:=H3.out;obtain⟨h1,h2,h3,h4⟩:=H5.out;have b24:Below w2.heap.size w2 w4:=HB3.out.1.trans (HB4.out.mono HB3.out.1.size);have hm4:MapS w4 m (l++[(id,partV C q i)]):=hm3.other (b24.block m hm3.lt);have c1:Chg (S::m::bv.ownBlock.toList) w w1:=k2'.more (by simp);have c2:Chg (S::m::bv.ownBlock.toList) w w2:=c1.trans (Chg.undrew k3) (fun b hb=> .inl (by simp at hb;simp[hb]));have c4:Chg (S::m::bv.ownBlock.toList) w w4:=c2.trans (Chg.of_below (M:=[]) b24) (fun b hb=>by cases hb);have c5:Chg (S::m::bv.ownBlock.toList) w w5:=c4.trans h3 (fun b hb=> .inl (by simp at hb⊢;rcases hb with h|h<;>simp[h]));rw[HOUT.out];refine⟨rfl,v',h1,hm4.other (h3.block m hm4.lt hmn),h2,c5,?_⟩
 rcases h4 with h|⟨g,hg,hge⟩
 ·exact .inl h
 ·exact .inr ⟨g,hg,Nat.le_trans c4.size hge⟩
structure SrvQ where
 up:Bool
 next:Nat
 held:List UInt8
 sent:List UInt8
def opPs (ps:List PS):List (Nat×Nat):=ps.filterMap (fun p=>match p with|⟨.inl (some (o,id))⟩=>some (o,id)|_=>none)
def opQs (qs:List QS):List (Nat×Nat):=qs.flatMap (fun x=>opPs x.ps)
def idsAt (o:Nat)(l:List (Nat×Nat)):List Nat:=(l.filter (fun p=>p.1==o)).map (·.2)
theorem mem_idsAt {o id:Nat}{l:List (Nat×Nat)}:id∈idsAt o l↔(o,id)∈l:=by
 unfold idsAt;rw[List.mem_map];constructor
 ·rintro ⟨p,hp,rfl⟩;obtain⟨h1,h2⟩:=List.mem_filter.1 hp;have:p.1=o:=by simpa using h2
  rw[←this];exact h1
 ·intro h;exact⟨(o,id),List.mem_filter.2 ⟨h,by simp⟩,rfl⟩
theorem idsAt_len (o:Nat)(l:List (Nat×Nat)):(idsAt o l).length≤l.length:=by
 unfold idsAt;rw[List.length_map];exact List.length_filter_le _ _
def freeJ (nx:Nat)(ids:List Nat):Nat:=((List.range (ids.length+1)).find? (fun j=> !ids.contains ((nx+j) % 65536))).getD 0
theorem nodup_sub:∀(a b:List Nat),a.Nodup→(∀x∈a,x∈b)→a.length≤b.length:=by
 intro a;induction a with
 |nil=>intro b _ _;exact Nat.zero_le _
 |cons x a ih=>
  intro b hn hs;obtain⟨h1,h2⟩:=List.nodup_cons.1 hn;have hx:=hs x (by simp);have:=ih (b.erase x) h2 (fun y hy=>(List.mem_erase_of_ne (fun e=>h1 (by rw[←e];exact hy))).2 (hs y (by simp[hy])));rw[List.length_erase_of_mem hx]at this;have hb:0<b.length:=List.length_pos_of_mem hx;simp only[List.length_cons]
  omega
theorem freeJ_spec (nx:Nat)(ids:List Nat)(hl:ids.length<65536):freeJ nx ids≤ids.length∧(nx+freeJ nx ids) % 65536∉ids∧∀j,j<freeJ nx ids→(nx+j) % 65536∈ids:=by
 unfold freeJ;cases hf:(List.range (ids.length+1)).find? (fun j=> !ids.contains ((nx+j) % 65536))with
 |none=>
  exfalso;rw[List.find?_eq_none]at hf;have hn:((List.range (ids.length+1)).map (fun j=>(nx+j) % 65536)).Nodup:=by
   refine List.Pairwise.map _ (R:=fun a b=>a<b∧b<65536) (fun a b h e=>?_) ?_
   ·omega
   ·rw[List.pairwise_iff_getElem];intro i j hi hj hij;simp at hi hj⊢;omega
  have:=nodup_sub _ ids hn (fun x hx=>by
   obtain⟨j,hj,rfl⟩:=List.mem_map.1 hx;have:=hf j hj;simpa using this)
  simp at this;omega
 |some j=>
  have h1:=List.find?_some hf;have h2:j∈List.range (ids.length+1):=List.mem_of_find?_eq_some hf;simp only[Option.getD_some]
  refine⟨by have:=List.mem_range.1 h2;omega,by simpa using h1,fun i hi=>?_⟩;rw[List.find?_range_eq_some]at hf;have:=hf.2.2 i hi;simpa using this
theorem freeJ_eq (nx:Nat)(ids:List Nat)(hl:ids.length<65536)(j:Nat)(h1:(nx+j) % 65536∉ids)(h2:∀i,i<j→(nx+i) % 65536∈ids):freeJ nx ids=j:=by
 obtain⟨_,a1,a2⟩:=freeJ_spec nx ids hl;rcases Nat.lt_trichotomy (freeJ nx ids) j with h|h|h
 ·exact absurd (h2 _ h) a1
 ·exact h
 ·exact absurd (a2 _ h) h1
def sendK (sv pt:Nat)(k:Int)(val:ByteArray)(ex:List (Nat×Nat))(st:List SrvQ×List PS)(key:ByteArray):List SrvQ×List PS:=
 match st.1[ownerN sv pt key]?with
 |none=>(st.1,st.2++[.fl])
 |some s=>if s.up=true then
  (st.1.set (ownerN sv pt key) {s with next:=(s.next+freeJ s.next (idsAt (ownerN sv pt key) (ex++opPs st.2))+1) % 65536,sent:=s.sent++(sentB k key val ((s.next+freeJ s.next (idsAt (ownerN sv pt key) (ex++opPs st.2))) % 65536)).data.toList},
   st.2++[.op (ownerN sv pt key) ((s.next+freeJ s.next (idsAt (ownerN sv pt key) (ex++opPs st.2))) % 65536)])
  else(st.1,st.2++[.fl])
def sendsK (sv pt:Nat)(k:Int)(val:ByteArray)(ex:List (Nat×Nat))(ss:List SrvQ)(ks:List ByteArray):List SrvQ×List PS:=ks.foldl (sendK sv pt k val ex) (ss,[])
theorem sendsK_snoc (sv pt:Nat)(k:Int)(val:ByteArray)(ex:List (Nat×Nat))(ss:List SrvQ)(ks:List ByteArray)(key:ByteArray):sendsK sv pt k val ex ss (ks++[key])=sendK sv pt k val ex (sendsK sv pt k val ex ss ks) key:=by
 unfold sendsK;rw[List.foldl_append];rfl
theorem sendK_len (sv pt:Nat)(k:Int)(val:ByteArray)(ex:List (Nat×Nat))(st:List SrvQ×List PS)(key:ByteArray):(sendK sv pt k val ex st key).1.length=st.1.length∧(sendK sv pt k val ex st key).2.length=st.2.length+1:=by
 unfold sendK;split
 ·simp
 ·split<;>simp
theorem sendsK_ind (sv pt:Nat)(k:Int)(val:ByteArray)(ex:List (Nat×Nat))(ss:List SrvQ)(P:List ByteArray→List SrvQ×List PS→Prop)(h0:P [] (ss,[]))(hs:∀ks key st,P ks st→P (ks++[key]) (sendK sv pt k val ex st key)):∀ks,P ks (sendsK sv pt k val ex ss ks):=by
 intro ks;have:∀n,n≤ks.length→P (ks.take n) (sendsK sv pt k val ex ss (ks.take n)):=by
  intro n;induction n with
  |zero=>intro _;exact h0
  |succ n ih=>
   intro hn;have h1:=ih (by omega);rw[List.take_add_one,List.getElem?_eq_getElem (by omega)];simp only[Option.toList_some]
   rw[sendsK_snoc];exact hs _ _ _ h1
 have:=this ks.length (Nat.le_refl _);rwa [List.take_length]at this
theorem sendsK_len (sv pt:Nat)(k:Int)(val:ByteArray)(ex:List (Nat×Nat))(ss:List SrvQ)(ks:List ByteArray):(sendsK sv pt k val ex ss ks).1.length=ss.length∧(sendsK sv pt k val ex ss ks).2.length=ks.length:=
 sendsK_ind sv pt k val ex ss (fun ks st=>st.1.length=ss.length∧st.2.length=ks.length) ⟨rfl,rfl⟩ (fun ks key st h=>by
  obtain⟨h1,h2⟩:=sendK_len sv pt k val ex st key;exact⟨h1.trans h.1,by rw[h2,h.2];simp⟩) ks
theorem sendsK_bd (sv pt:Nat)(k:Int)(val:ByteArray)(hv:val.size≤40)(ex:List (Nat×Nat))(ss:List SrvQ)(M:Nat)(h:∀s∈ss,s.next<65536∧s.sent.length≤M)(ks:List ByteArray)(hk:∀x∈ks,x.size≤8):(∀s∈(sendsK sv pt k val ex ss ks).1,s.next<65536∧s.sent.length≤M+1000*ks.length):=
 sendsK_ind sv pt k val ex ss (fun ks st=>(∀x∈ks,x.size≤8)→∀s∈st.1,s.next<65536∧s.sent.length≤M+1000*ks.length) (fun _ s hs=>by have:=h s hs;simp;exact this) (fun ks key st hP hks s hs=>by
  have hP:=hP (fun x hx=>hks x (by simp[hx]));have hkey:=hks key (by simp);unfold sendK at hs;rw[List.length_append,List.length_singleton];split at hs
  ·have:=hP s hs;exact⟨this.1,by omega⟩
  ·rename_i u hu;split at hs
   ·rcases List.mem_or_eq_of_mem_set hs with h1|h1
    ·have:=hP s h1;exact⟨this.1,by omega⟩
    ·subst h1;have h2:=hP u (List.mem_of_getElem? hu);have h3:=sentB_size k key val ((u.next+freeJ u.next (idsAt (ownerN sv pt key) (ex++opPs st.2))) % 65536) hkey hv;refine⟨Nat.mod_lt _ (by decide),?_⟩;simp only[List.length_append]
     omega
   ·have:=hP s hs;exact⟨this.1,by omega⟩) ks hk
theorem sendsK_ps (sv pt:Nat)(k:Int)(val:ByteArray)(ex:List (Nat×Nat))(ss:List SrvQ)(ks:List ByteArray):∀p∈(sendsK sv pt k val ex ss ks).2,p= .fl∨∃o id,p= .op o id:=
 sendsK_ind sv pt k val ex ss (fun ks st=>∀p∈st.2,p= .fl∨∃o id,p= .op o id) (fun p hp=>by cases hp) (fun ks key st hP p hp=>by
  unfold sendK at hp;split at hp
  ·rcases List.mem_append.1 hp with h|h
   ·exact hP p h
   ·simp at h;exact .inl h
  ·split at hp
   ·rcases List.mem_append.1 hp with h|h
    ·exact hP p h
    ·simp at h;exact .inr ⟨_,_,h⟩
   ·rcases List.mem_append.1 hp with h|h
    ·exact hP p h
    ·simp at h;exact .inl h) ks
variable {W W':World}{s:SrvQ}{b o:Nat}{ss:List SrvQ}{l:List (Nat×Value)}{os:List (Nat×Nat×Value)}
structure SrvV where
 S:Nat
 m:Nat
 hb:Option Nat
 bp:Value
 bv:Value
 l:List (Nat×Value)
def SrvV.foot (v:SrvV):List Nat:=v.S::v.m::(v.hb.toList++v.bv.ownBlock.toList)
structure SrvAt (W:World)(v:SrvV)(s:SrvQ):Prop where
 inb:SInAt W v.S v.hb ⟨!s.up,s.next,v.m,v.bp,v.bv⟩ ⟨s.held,false,false⟩
 mp:MapS W v.m v.l
 bpv:v.bp= .pointer none∨v.bp= .pointer (some ⟨v.S,7,none⟩)
 row:BldRow W v.bv s.sent
 nx:s.next<65536
 ab:∀b,v.bv.ownBlock=some b→v.hb≠some b
theorem SrvAt.blk {v:SrvV}(h:SrvAt W v s):∃iv iu ip ic,W.heap[v.S]?=some (svO (!s.up) s.next v.m iv iu ip ic v.bp v.bv):=by
 obtain⟨⟨iv,iu,h1,_⟩,_⟩:=h.inb;exact⟨_,_,_,_,h1⟩
theorem SrvAt.kind {v:SrvV}(h:SrvAt W v s):∀b∈v.foot,(∃Z T f,W.heap[b]?=some (.cells Z T f)∧(T=143∨T=5))∨∃es c,W.heap[b]?=some (.map es c):=by
 intro b hb;rcases List.mem_cons.1 hb with rfl|hb
 ·obtain⟨iv,iu,ip,ic,h1⟩:=h.blk;exact .inl ⟨_,_,_,h1,.inl rfl⟩
 rcases List.mem_cons.1 hb with rfl|hb
 ·obtain⟨es,c,h1,_⟩:=h.mp;exact .inr ⟨_,_,h1⟩
 rcases List.mem_append.1 hb with hb|hb
 ·obtain⟨cur,h1⟩:=h.inb.hbBlk (optMem hb);exact .inl ⟨_,_,_,h1,.inr rfl⟩
 ·obtain⟨cur,fz,h1⟩:=h.row.blk (mem_own hb);exact .inl ⟨_,_,_,h1,.inr rfl⟩
theorem SrvAt.old {v:SrvV}(h:SrvAt W v s):∀b∈v.foot,b<W.heap.size:=fun b hb=>by
 rcases h.kind b hb with⟨Z,T,f,h1,_⟩|⟨es,c,h1⟩
 ·exact blkLt h1
 ·exact blkLt h1
theorem SrvAt.keep {v:SrvV}(h:SrvAt W v s)(k:∀b∈v.foot,W'.heap[b]?=W.heap[b]?):SrvAt W' v s:=
 ⟨h.inb.keep (fun b hb=>k b (by rcases hb with e|e<;>simp[SrvV.foot,e])),h.mp.other (k _ (by simp[SrvV.foot])),h.bpv,h.row.other (fun g hg=>k g (by simp[SrvV.foot,hg])),h.nx,h.ab⟩
theorem SrvAt.nS {v:SrvV}(h:SrvAt W v s):v.S≠v.m∧v.hb≠some v.S∧v.bv.ownBlock≠some v.S∧v.hb≠some v.m∧v.bv.ownBlock≠some v.m:=by
 obtain⟨iv,iu,ip,ic,h1⟩:=h.blk;unfold svO at h1;obtain⟨es,c,h2,_⟩:=h.mp;refine⟨fun e=>?_,h.inb.ne,fun e=>?_,fun e=>?_,fun e=>?_⟩
 ·rw[e,h2]at h1;cases h1
 ·obtain⟨cur,fz,h3⟩:=h.row.blk e;rw[h1]at h3;cases h3
 ·obtain⟨cur,h3⟩:=h.inb.hbBlk e;rw[h2]at h3;cases h3
 ·obtain⟨cur,fz,h3⟩:=h.row.blk e;rw[h2]at h3;cases h3
structure SrvsAt (W:World)(vs:List SrvV)(ss:List SrvQ):Prop where
 len:vs.length=ss.length
 ok:∀(j:Nat) (v:SrvV) (s:SrvQ),vs[j]?=some v→ss[j]?=some s→SrvAt W v s
 ap:∀(i j:Nat) (v u:SrvV),i≠j→vs[i]?=some v→vs[j]?=some u→∀b∈v.foot,b∉u.foot
def feetS (vs:List SrvV):List Nat:=(vs.map SrvV.foot).flatten
theorem mem_feetS {vs:List SrvV}:b∈feetS vs↔∃(j:Nat) (v:SrvV),vs[j]?=some v∧b∈v.foot:=by
 unfold feetS;rw[List.mem_flatten];constructor
 ·rintro ⟨l,hl,hb⟩;obtain⟨v,hv,rfl⟩:=List.mem_map.1 hl;obtain⟨j,hj,e⟩:=List.mem_iff_getElem.1 hv;exact⟨j,v,by rw[List.getElem?_eq_getElem hj,e],hb⟩
 ·rintro ⟨j,v,hv,hb⟩;exact⟨v.foot,List.mem_map.2 ⟨v,List.mem_of_getElem? hv,rfl⟩,hb⟩
theorem SrvsAt.get {vs:List SrvV}(h:SrvsAt W vs ss){j:Nat}(hj:j<vs.length):∃v s,vs[j]?=some v∧ss[j]?=some s∧SrvAt W v s:=by
 have hj2:j<ss.length:=by rw[←h.len];exact hj
 exact⟨_,_,List.getElem?_eq_getElem hj,List.getElem?_eq_getElem hj2,h.ok j _ _ (List.getElem?_eq_getElem hj) (List.getElem?_eq_getElem hj2)⟩
theorem SrvsAt.old {vs:List SrvV}(h:SrvsAt W vs ss):∀b∈feetS vs,b<W.heap.size:=by
 intro b hb;obtain⟨j,v,hv,hbv⟩:=mem_feetS.1 hb;obtain⟨v',s,hv',hs,hok⟩:=h.get (List.getElem?_eq_some_iff.1 hv).1;rw[hv]at hv';cases hv';exact hok.old b hbv
theorem SrvsAt.keep {vs:List SrvV}(h:SrvsAt W vs ss)(k:∀b∈feetS vs,W'.heap[b]?=W.heap[b]?):SrvsAt W' vs ss:=
 ⟨h.len,fun j v s hv hs=>(h.ok j v s hv hs).keep (fun b hb=>k b (mem_feetS.2 ⟨j,v,hv,hb⟩)),h.ap⟩
theorem SrvsAt.below {vs:List SrvV}(h:SrvsAt W vs ss)(hb:Below W.heap.size W W'):SrvsAt W' vs ss:=h.keep (fun b hm=>hb.block b (h.old b hm))
theorem SrvsAt.step {vs:List SrvV}(h:SrvsAt W vs ss){v v':SrvV}{s':SrvQ}(hv:vs[o]?=some v)(hc:Chg v.foot W W')(hn:SrvAt W' v' s')(hl:Later W v.foot v'.foot):SrvsAt W' (vs.set o v') (ss.set o s')∧Later W (feetS vs) (feetS (vs.set o v')):=by
 have hol:=(List.getElem?_eq_some_iff.1 hv).1;refine⟨⟨by simp[h.len],fun j u s hu hs=>?_,fun i j u1 u2 hij h1 h2 b hb1 hb2=>?_⟩,fun b hb=>?_⟩
 ·by_cases hjo:o=j
  ·subst hjo;rw[List.getElem?_set_self hol]at hu;rw[List.getElem?_set_self (by rw[←h.len];exact hol)]at hs;cases hu;cases hs;exact hn
  ·rw[List.getElem?_set_ne hjo]at hu hs;have hok:=h.ok j u s hu hs;exact hok.keep (fun b hb=>hc.block b (hok.old b hb) (h.ap j o u v (fun e=>hjo e.symm) hu hv b hb))
 ·rw[List.getElem?_set]at h1 h2;have oldb:∀(k:Nat) (u:SrvV),vs[k]?=some u→∀b∈u.foot,b<W.heap.size:=fun k u hu b hb=>h.old b (mem_feetS.2 ⟨k,u,hu,hb⟩)
  split at h1
  ·rename_i e1;subst e1;split at h2
   ·rename_i e2;exact hij e2
   ·simp at h1;subst h1;rcases hl b hb1 with h3|h3
    ·exact h.ap o j v u2 hij hv h2 b h3 hb2
    ·have:=oldb j u2 h2 b hb2;omega
  ·split at h2
   ·rename_i e2;subst e2;simp at h2;subst h2;rcases hl b hb2 with h3|h3
    ·exact h.ap i o u1 v hij h1 hv b hb1 h3
    ·have:=oldb i u1 h1 b hb1;omega
   ·exact h.ap i j u1 u2 hij h1 h2 b hb1 hb2
 ·obtain⟨j,u,hu,hbu⟩:=mem_feetS.1 hb;rw[List.getElem?_set]at hu;split at hu
  ·rename_i e;subst e;simp at hu;subst hu;rcases hl b hbu with h3|h3
   ·exact .inl (mem_feetS.2 ⟨o,v,hv,h3⟩)
   ·exact .inr h3
  ·exact .inl (mem_feetS.2 ⟨j,u,hu,hbu⟩)
theorem SrvsAt.apart {vs:List SrvV}(h:SrvsAt W vs ss){T:Nat}{Z:Array Value}{f:Nat×Nat}(hb:W.heap[b]?=some (.cells Z T f))(h1:T≠143)(h2:T≠5):b∉feetS vs:=by
 intro hm;obtain⟨j,v,hv,hbv⟩:=mem_feetS.1 hm;obtain⟨v',s,hv',hs,hok⟩:=h.get (List.getElem?_eq_some_iff.1 hv).1;rw[hv]at hv';cases hv';rcases hok.kind b hbv with⟨Z',T',f',h3,h4⟩|⟨es,c,h3⟩
 ·rw[hb]at h3;simp at h3;obtain⟨_,rfl,_⟩:=h3;rcases h4 with e|e
  ·exact h1 e
  ·exact h2 e
 ·rw[hb]at h3;cases h3
def opQ (C q:Nat):Nat→List PS→List (Nat×Nat×Value)
 |_,[]=>[]
 |i,⟨.inl (some (o,id))⟩::ps=>(o,id,partV C q i)::opQ C q (i+1) ps
 |i,_::ps=>opQ C q (i+1) ps
theorem opQ_app (C q:Nat):∀(a b:List PS) (i:Nat),opQ C q i (a++b)=opQ C q i a++opQ C q (i+a.length) b:=by
 intro a;induction a with
 |nil=>intro b i;simp[opQ]
 |cons p a ih=>
  intro b i;have e:i+(a.length+1)=i+1+a.length:=by omega
  cases p using PS.el<;>simp[opQ,ih,e]
theorem opQ_un (C q:Nat):∀(n i:Nat),opQ C q i (List.replicate n .un)=[]:=by
 intro n;induction n with
 |zero=>intro i;rfl
 |succ n ih=>intro i;rw[List.replicate_succ];exact ih (i+1)
theorem opQ_forget (C q:Nat):∀(ps:List PS) (i:Nat),(opQ C q i ps).map (fun p=>(p.1,p.2.1))=opPs ps:=by
 intro ps;induction ps with
 |nil=>intro i;rfl
 |cons p ps ih=>intro i;cases p using PS.el<;>simp[opQ,opPs,ih]<;>exact ih (i+1)
theorem opQ_part (C q:Nat):∀(ps:List PS) (i:Nat),∀p∈opQ C q i ps,∃j,i≤j∧p.2.2=partV C q j∧ps[j-i]?=some (.op p.1 p.2.1):=by
 intro ps;induction ps with
 |nil=>intro i p hp;cases hp
 |cons x ps ih=>
  intro i p hp;have go:p∈opQ C q (i+1) ps→∃j:Nat,i≤j∧p.2.2=partV C q j∧(x::ps)[j-i]?=some (.op p.1 p.2.1):=fun hp=>by
   obtain⟨j,h1,h2,h3⟩:=ih (i+1) p hp;refine⟨j,by omega,h2,?_⟩;have e:j-i=(j-(i+1))+1:=by omega
   rw[e,List.getElem?_cons_succ];exact h3
  cases x using PS.el with
  |op o id=>
   rcases List.mem_cons.1 hp with rfl|hp
   ·exact⟨i,Nat.le_refl _,rfl,by simp⟩
   ·exact go hp
  |un=>exact go hp
  |an st v=>exact go hp
  |fl=>exact go hp
def opnV (C:Nat)(qi:List QI)(xs:List QS):List (Nat×Nat×Value):=(qi.zip xs).flatMap (fun p=>opQ C p.1.q 0 p.2.ps)
theorem opnV_cons (C:Nat)(v:QI)(qi:List QI)(x:QS)(xs:List QS):opnV C (v::qi) (x::xs)=opQ C v.q 0 x.ps++opnV C qi xs:=by unfold opnV;simp
theorem opnV_snoc (C:Nat)(v:QI)(qi:List QI)(x:QS)(xs:List QS)(h:qi.length=xs.length):opnV C (qi++[v]) (xs++[x])=opnV C qi xs++opQ C v.q 0 x.ps:=by
 unfold opnV;rw[List.zip_append h,List.flatMap_append];simp
theorem opnV_forget (C:Nat):∀(qi:List QI) (xs:List QS),qi.length=xs.length→(opnV C qi xs).map (fun p=>(p.1,p.2.1))=opQs xs:=by
 intro qi;induction qi with
 |nil=>intro xs h;cases xs with
  |nil=>rfl
  |cons x xs=>simp at h
 |cons v qi ih=>
  intro xs h;cases xs with
  |nil=>simp at h
  |cons x xs=>
   rw[opnV_cons,List.map_append,opQ_forget,ih xs (by simpa using h)];unfold opQs;simp
structure MapR (o:Nat)(l:List (Nat×Value))(os:List (Nat×Nat×Value)):Prop where
 pm:l.Perm ((os.filter (fun p=>p.1==o)).map (·.2))
 nd:(l.map (·.1)).Nodup
theorem MapR.perm {os':List (Nat×Nat×Value)}(h:MapR o l os)(hp:os.Perm os'):MapR o l os':=⟨h.pm.trans ((hp.filter _).map _),h.nd⟩
theorem MapR.mem (h:MapR o l os){p:Nat×Value}:p∈l↔(o,p)∈os:=by
 rw[h.pm.mem_iff,List.mem_map];constructor
 ·rintro ⟨q,hq,rfl⟩;obtain⟨h1,h2⟩:=List.mem_filter.1 hq;have:q.1=o:=by simpa using h2
  rw[←this];exact h1
 ·intro hp;exact⟨(o,p),List.mem_filter.2 ⟨hp,by simp⟩,rfl⟩
theorem MapR.ids (h:MapR o l os)(id:Nat):(∃p∈l,p.1=id)↔id∈idsAt o (os.map (fun p=>(p.1,p.2.1))):=by
 rw[mem_idsAt,List.mem_map];constructor
 ·rintro ⟨p,hp,rfl⟩;exact⟨(o,p),h.mem.1 hp,rfl⟩
 ·rintro ⟨q,hq,e⟩;have e1:q.1=o:=congrArg Prod.fst e;have e2:q.2.1=id:=congrArg Prod.snd e;exact⟨q.2,h.mem.2 (by rw[←e1];exact hq),e2⟩
theorem MapR.snoc (h:MapR o l os)(id:Nat)(v:Value)(hn:∀p∈l,p.1≠id):MapR o (l++[(id,v)]) (os++[(o,id,v)]):=by
 refine⟨?_,?_⟩
 ·rw[List.filter_append,List.map_append];refine List.Perm.append h.pm ?_;simp
 ·rw[List.map_append];refine List.nodup_append.2 ⟨h.nd,by simp,fun a ha b hb e=>?_⟩;simp at hb;obtain⟨p,hp,e2⟩:=List.mem_map.1 ha;exact hn p hp (by rw[e2,e,hb])
theorem MapR.else {o':Nat}(h:MapR o l os)(id:Nat)(v:Value)(hn:o'≠o):MapR o l (os++[(o',id,v)]):=by
 refine⟨?_,h.nd⟩;rw[List.filter_append,List.map_append];have:([(o',id,v)].filter (fun p=>p.1==o))=[]:=by simp[hn]
 rw[this];simpa using h.pm
end Go.Proofs.YtlonjggfnleolaaGreatDoor
namespace Go.Proofs.YtlonjggfnleolaaGreatDoor
open Go.RowKit Go.Shelf Go.Conc
set_option linter.unusedVariables false
variable {W W':World}{X sv pt win g sc:Nat}{cv:Value}{exV:List (Nat×Nat×Value)}{v:CliV}{s:CliQ}{vs:List SrvV}{ss:List SrvQ}{vq:QI}{c:Cmd}{a b:List PS}
def forg (l:List (Nat×Nat×Value)):List (Nat×Nat):=l.map (fun p=>(p.1,p.2.1))
structure RunQ (W:World)(X sv pt win g sc:Nat)(cv:Value)(exV:List (Nat×Nat×Value))(v:CliV)(s:CliQ)(vs:List SrvV)(ss:List SrvQ):Prop where
 blk:W.heap[X]?=some (juO sv pt win cv (.slice (some ⟨g,0,none⟩) sv sc))
 gb:∃Zg,W.heap[g]?=some (.cells Zg 137 (0,0))∧∀(j:Nat) (u:SrvV),vs[j]?=some u→Zg[j]?=some (.pointer (some ⟨u.S,0,none⟩))
 len:vs.length=sv
 s1:1≤sv
 s4:sv≤4
 sc_:sv≤sc
 pt_:pt≤16
 cli:CliAt W win v s
 srv:SrvsAt W vs ss
 ap:∀b∈v.foot,b∉feetS vs
 mr:∀(o:Nat) (u:SrvV),vs[o]?=some u→MapR o u.l (exV++opnV v.k.C v.qi s.qs)
 pv:∀p∈exV,∃(C q i:Nat),p.2.2=partV C q i
 exl:exV.length≤100
theorem RunQ.nX (h:RunQ W X sv pt win g sc cv exV v s vs ss):X∉v.foot∧g∉v.foot∧X∉feetS vs∧g∉feetS vs:=by
 obtain⟨Zg,h1,h2⟩:=h.gb;exact⟨h.cli.apart h.blk (by decide),h.cli.apart h1 (by decide),h.srv.apart h.blk (by decide) (by decide),h.srv.apart h1 (by decide) (by decide)⟩
theorem RunQ.cliTo {v':CliV}{s':CliQ}(h:RunQ W X sv pt win g sc cv exV v s vs ss)(k:Chg v.foot W W')(hl:Later W v.foot v'.foot)(hc:CliAt W' win v' s')(ho:opnV v'.k.C v'.qi s'.qs=opnV v.k.C v.qi s.qs):RunQ W' X sv pt win g sc cv exV v' s' vs ss:=by
 obtain⟨n1,n2,_,_⟩:=h.nX;obtain⟨Zg,h1,h2⟩:=h.gb;refine⟨k.keep h.blk n1,⟨Zg,k.keep h1 n2,h2⟩,h.len,h.s1,h.s4,h.sc_,h.pt_,hc,h.srv.keep (fun b hb=>k.block b (h.srv.old b hb) (fun hm=>h.ap b hm hb)),fun b hb hm=>?_,by rw[ho];exact h.mr,h.pv,h.exl⟩;rcases hl b hb with h3|h3
 ·exact h.ap b h3 hm
 ·have:=h.srv.old b hm;omega
theorem opPs_len (ps:List PS):(opPs ps).length≤ps.length:=List.length_filterMap_le _ _
theorem opQs_len:∀(qs:List QS) (N:Nat),(∀x∈qs,x.ps.length≤N)→(opQs qs).length≤N*qs.length:=by
 intro qs;induction qs with
 |nil=>intro N _;exact Nat.zero_le _
 |cons x qs ih=>
  intro N h;have h1:=ih N (fun y hy=>h y (by simp[hy]));have h2:=h x (by simp);have h3:=opPs_len x.ps;unfold opQs at h1⊢;rw[List.flatMap_cons,List.length_append,List.length_cons,Nat.mul_add,Nat.mul_one];omega
theorem CliAt.quTo (h:CliAt W win v s){i:Nat}{x x':QS}(hv:v.qi[i]?=some vq)(hx0:s.qs[i]?=some x)(k:∀b∈v.foot,b∉vq.foot→W'.heap[b]?=W.heap[b]?)(hx:QuAt W' vq x')(hc:x'.c=x.c)(ok:QSOk s.d x'):CliAt W' win v {s with qs:=s.qs.set i x'}:=by
 have hkeep:∀b∈v.k.foot,W'.heap[b]?=W.heap[b]?:=fun b hb=>k b (List.mem_append.2 (.inl hb)) (fun hm=>h.ap b (mem_feetQ.2 ⟨vq,List.mem_of_getElem? hv,hm⟩) hb)
 have hmap:(s.qs.set i x').map (·.c)=s.qs.map (·.c):=by
  apply List.ext_getElem?;intro j;rw[List.getElem?_map,List.getElem?_map,List.getElem?_set];split
  ·rename_i e;subst e;rw[hx0];simp[hc,(List.getElem?_eq_some_iff.1 hx0).1]
  ·rfl
 refine⟨?_,h.qk,h.qu.set hv (fun b hb hn=>k b (List.mem_append.2 (.inr hb)) hn) hx,fun y hy=>?_⟩
 ·have:=h.cor.keep hkeep;show CorAt W' win v.k ⟨s.d,s.st,(s.qs.set i x').map (·.c),s.told⟩;rw[hmap];exact this
 ·rcases List.mem_or_eq_of_mem_set hy with h1|h1
  ·exact h.ok y h1
  ·rw[h1];exact ok
theorem QSOk.part {d:Int}{p p':PS}(h:QSOk d ⟨c,a++p::b⟩)(hp:PSOk c.kind p'):QSOk d ⟨c,a++p'::b⟩:=
 ⟨h.w,by have:=h.len;simpa using this,fun y hy=>by
  rcases List.mem_append.1 hy with h1|h1
  ·exact h.ps y (List.mem_append.2 (.inl h1))
  ·rcases List.mem_cons.1 h1 with h1|h1
   ·rw[h1];exact hp
   ·exact h.ps y (List.mem_append.2 (.inr (List.mem_cons_of_mem _ h1)))⟩
theorem qd_op (vq:QI)(c:Cmd)(a b:List PS)(o id:Nat):qdOf vq ⟨c,a++ .op o id::b⟩=qdOf vq ⟨c,a++ .un::b⟩∧yesC (a++ .op o id::b)=yesC (a++ .un::b)∧valC (a++ .op o id::b)=valC (a++ .un::b):=by
 refine⟨?_,?_,?_⟩
 ·unfold qdOf QS.n QS.fa QS.re;simp[PS.bad,PS.ref,List.countP_cons,PS.opn]
 ·unfold yesC;simp[PS.yes]
 ·unfold valC;simp[PS.val]
theorem qd_fl (vq:QI)(c:Cmd)(a b:List PS):(QS.n ⟨c,a++ .un::b⟩=QS.n ⟨c,a++ .fl::b⟩+1)∧qdOf vq ⟨c,a++ .fl::b⟩={qdOf vq ⟨c,a++ .un::b⟩with n:=QS.n ⟨c,a++ .fl::b⟩,fa:=true}∧yesC (a++ .fl::b)=yesC (a++ .un::b)∧valC (a++ .fl::b)=valC (a++ .un::b):=by
 refine⟨?_,?_,?_,?_⟩
 ·unfold QS.n;simp[List.countP_cons,PS.opn];try omega
 ·unfold qdOf QS.n QS.fa QS.re;simp[PS.opn,PS.bad,PS.ref]
 ·unfold yesC;simp[PS.yes]
 ·unfold valC;simp[PS.val]
theorem QuAt.toOp (o id:Nat)(h:QuAt W vq ⟨c,a++ .un::b⟩):QuAt W vq ⟨c,a++ .op o id::b⟩:=by
 obtain⟨e1,e2,e3⟩:=qd_op vq c a b o id;refine⟨?_,?_,?_,h.keys⟩
 ·rw[e1];exact h.blk
 ·show _=some (Obj.cells (yesC (a++ .op o id::b)) 4 (0,0));rw[e2];exact h.yes
 ·show _=some (Obj.cells (valC (a++ .op o id::b)) 9 (0,0));rw[e3];exact h.val
theorem QuAt.toFl (h:QuAt W vq ⟨c,a++ .un::b⟩)(k:Chg [vq.q] W W')(hq:W'.heap[vq.q]?=some (qdO {qdOf vq ⟨c,a++ .un::b⟩with n:=QS.n ⟨c,a++ .fl::b⟩,fa:=true})):QuAt W' vq ⟨c,a++ .fl::b⟩:=by
 obtain⟨_,e1,e2,e3⟩:=qd_fl vq c a b;have hn:=h.nd;unfold QI.foot at hn;simp at hn;have kb:∀b∈vq.foot,b≠vq.q→W'.heap[b]?=W.heap[b]?:=fun b hb hne=>k.block b (h.old b hb) (by simpa using hne)
 refine⟨?_,?_,?_,?_⟩
 ·rw[e1];exact hq
 ·show _=some (Obj.cells (yesC (a++ .fl::b)) 4 (0,0));rw[e2];exact(kb _ (by simp[QI.foot]) (fun e=>hn.1.1 e.symm)).trans h.yes
 ·show _=some (Obj.cells (valC (a++ .fl::b)) 9 (0,0));rw[e3];exact(kb _ (by simp[QI.foot]) (fun e=>hn.1.2.1 e.symm)).trans h.val
 ·rcases h.keys with e|⟨b',c',Z,e,e2,e3,e4,hZ,e5⟩
  ·exact .inl e
  ·refine .inr ⟨b',c',Z,e,e2,e3,e4,(kb b' (by simp[QI.foot,e]) (fun e6=>?_)).trans hZ,e5⟩;have h1:=h.blk;rw[←e6,hZ]at h1;unfold qdO quO at h1;simp at h1
set_option maxHeartbeats 1000000
variable {W W':World}{X sv pt win g sc:Nat}{cv:Value}{exV:List (Nat×Nat×Value)}{v:CliV}{s:CliQ}{vs:List SrvV}{ss:List SrvQ}
theorem opPs_app (a b:List PS):opPs (a++b)=opPs a++opPs b:=List.filterMap_append
theorem opPs_un (n:Nat):opPs (List.replicate n .un)=[]:=by
 induction n with
 |zero=>rfl
 |succ n ih=>rw[List.replicate_succ];unfold opPs at ih⊢;rw[List.filterMap_cons];exact ih
theorem opQs_snoc (qs:List QS)(x:QS):opQs (qs++[x])=opQs qs++opPs x.ps:=by
 unfold opQs;rw[List.flatMap_append];simp
theorem opnV_last (C:Nat)(v:QI)(qi:List QI)(c:Cmd)(ps:List PS)(n:Nat)(qs:List QS)(h:qi.length=qs.length):opnV C (qi++[v]) (qs++[⟨c,ps++List.replicate n .un⟩])=opnV C qi qs++opQ C v.q 0 ps:=by
 rw[opnV_snoc C v qi _ qs h,opQ_app,opQ_un,List.append_nil]
theorem forg_app (a b:List (Nat×Nat×Value)):forg (a++b)=forg a++forg b:=List.map_append
def allQ (v:CliV)(vs:List SrvV):List Nat:=v.foot++feetS vs
theorem RunQ.below (h:RunQ W X sv pt win g sc cv exV v s vs ss)(hb:Below W.heap.size W W'):RunQ W' X sv pt win g sc cv exV v s vs ss:=by
 obtain⟨Zg,h1,h2⟩:=h.gb;exact⟨(hb.block X (blkLt h.blk)).trans h.blk,⟨Zg,(hb.block g (blkLt h1)).trans h1,h2⟩,h.len,h.s1,h.s4,h.sc_,h.pt_,h.cli.below hb,h.srv.below hb,h.ap,h.mr,h.pv,h.exl⟩
theorem RunQ.sentTo {s':CliQ}{vs':List SrvV}{ss':List SrvQ}(h:RunQ W X sv pt win g sc cv exV v s vs ss)(k:Chg (allQ v vs) W W')(hc:CliAt W' win v s')(hsr:SrvsAt W' vs' ss')(hl:Later W (feetS vs) (feetS vs'))(hS:∀(j:Nat) (u':SrvV),vs'[j]?=some u'→∃u,vs[j]?=some u∧u'.S=u.S)(hn:vs'.length=sv)(hm:∀(o:Nat) (u:SrvV),vs'[o]?=some u→MapR o u.l (exV++opnV v.k.C v.qi s'.qs)):RunQ W' X sv pt win g sc cv exV v s' vs' ss':=by
 obtain⟨n1,n2,n3,n4⟩:=h.nX;obtain⟨Zg,h1,h2⟩:=h.gb;have nn:∀b,b∉v.foot→b∉feetS vs→b∉allQ v vs:=fun b a1 a2 hm=>by
  rcases List.mem_append.1 hm with e|e
  ·exact a1 e
  ·exact a2 e
 refine⟨k.keep h.blk (nn X n1 n3),⟨Zg,k.keep h1 (nn g n2 n4),fun j u' hu=>?_⟩,hn,h.s1,h.s4,h.sc_,h.pt_,hc,hsr,fun b hb hm'=>?_,hm,h.pv,h.exl⟩
 ·obtain⟨u,e1,e2⟩:=hS j u' hu;rw[e2];exact h2 j u e1
 ·rcases hl b hm' with h3|h3
  ·exact h.ap b hb h3
  ·have:=h.cli.old b hb;omega
theorem set_last {α:Type}(l:List α)(x y:α):(l++[x]).set l.length y=l++[y]:=by simp
theorem get_last {α:Type}(l:List α)(x:α):(l++[x])[l.length]?=some x:=by simp
theorem part_sent {d:Int}{st:St}{told:List UInt8}{qs0:List QS}{qi0:List QI}{vq:QI}{c:Cmd}{ps:List PS}{r:Nat}(h:RunQ W X sv pt win g sc cv exV v ⟨d,st,qs0++[⟨c,ps++List.replicate (r+1) .un⟩],told⟩ vs ss)(hqi:v.qi=qi0++[vq]){key:ByteArray}(hkey:c.keys[ps.length]?=some key)(hq1:qs0.length≤1000)(hbd:∀s∈ss,s.sent.length+1000≤100000000000):∃u,vs[ownerN sv pt key]?=some u∧Calls Tryz.prog 132 #[.pointer (some ⟨u.S,0,none⟩),partV v.k.C vq.q ps.length] W fun e w'=>e= .returned (.tuple #[])∧∃vs',RunQ w' X sv pt win g sc cv exV v ⟨d,st,qs0++[⟨c,(sendK sv pt c.kind c.val (forg exV++opQs qs0) (ss,ps) key).2++List.replicate r .un⟩],told⟩ vs' (sendK sv pt c.kind c.val (forg exV++opQs qs0) (ss,ps) key).1∧Chg (allQ v vs) W w'∧Later W (allQ v vs) (allQ v vs'):=by
 have ho:=ownerN_lt sv pt key h.s1;obtain⟨u,s,hu,hs,hok⟩:=h.srv.get (j:=ownerN sv pt key) (by rw[h.len];exact ho);refine⟨u,hu,?_⟩;have hql:qi0.length=qs0.length:=by have:=h.cli.qu.len;rw[hqi]at this;simpa using this
 have e0:ps++List.replicate (r+1) PS.un=ps++ .un::List.replicate r .un:=by rw[List.replicate_succ]
 have hvq:v.qi[qs0.length]?=some vq:=by rw[hqi,←hql];exact get_last _ _
 have hxq:(qs0++[(⟨c,ps++List.replicate (r+1) .un⟩:QS)])[qs0.length]?=some ⟨c,ps++List.replicate (r+1) .un⟩:=get_last _ _;have hQ:=h.cli.qu.qu _ _ _ hvq hxq;have hcok:=h.cli.ok ⟨c,ps++List.replicate (r+1) .un⟩ (by simp);simp only at hcok;rw[e0]at hQ hcok;have hkne:c.keys≠[]:=fun e=>by rw[e]at hkey;cases hkey
 have hk4:c.keys.length≤4:=hcok.w.cm.k4;have hlen:=hcok.len;simp at hlen;have hkm:=List.mem_of_getElem? hkey;have hk8:=hcok.w.cm.k8 key hkm;have hfr:forg (exV++opnV v.k.C v.qi (qs0++[(⟨c,ps++List.replicate (r+1) .un⟩:QS)]))=forg exV++opQs qs0++opPs ps:=by
  rw[forg_app];have h1:forg (opnV v.k.C v.qi (qs0++[(⟨c,ps++List.replicate (r+1) .un⟩:QS)]))=opQs (qs0++[(⟨c,ps++List.replicate (r+1) .un⟩:QS)]):=opnV_forget _ _ _ h.cli.qu.len;rw[h1,opQs_snoc];simp only
  rw[opPs_app,opPs_un,List.append_nil,List.append_assoc]
 have hMR:=h.mr _ u hu;simp only at hMR;have hids:∀id,(∃p∈u.l,p.1=id)↔id∈idsAt (ownerN sv pt key) (forg exV++opQs qs0++opPs ps):=fun id=>by
  rw[←hfr];exact hMR.ids id
 have hidl:(idsAt (ownerN sv pt key) (forg exV++opQs qs0++opPs ps)).length<65536:=by
  have a1:=idsAt_len (ownerN sv pt key) (forg exV++opQs qs0++opPs ps);have a2:(forg exV).length≤100:=by unfold forg;rw[List.length_map];exact h.exl
  have a3:=opQs_len qs0 4 (fun x hx=>by
   have hx':=h.cli.ok x (by simp[hx]);simp only at hx';have:=hx'.len;have:=hx'.w.cm.k4;omega)
  have a4:=opPs_len ps;rw[List.length_append,List.length_append]at a1;omega
 obtain⟨f1,f2,f3⟩:=freeJ_spec s.next _ hidl;have hpv:∀p∈u.l,∃(C q:Nat) (i:Int),p.2=partV C q i:=fun p hp=>by
  rcases List.mem_append.1 (hMR.mem.1 hp)with h1|h1
  ·obtain⟨C,q,i,e⟩:=h.pv _ h1;exact⟨C,q,i,e⟩
  ·unfold opnV at h1;obtain⟨z,hz,h2⟩:=List.mem_flatMap.1 h1;obtain⟨j,_,e,_⟩:=opQ_part _ _ _ _ _ h2;exact⟨_,_,_,e⟩
 unfold sendK;simp only[hs]
 by_cases hup:s.up=true
 ·rw[if_pos hup];simp only
  generalize hj0:freeJ s.next (idsAt (ownerN sv pt key) (forg exV++opQs qs0++opPs ps))=j0 at*;obtain⟨⟨iv,iu,hD,HH,hz⟩,hne⟩:=hok.inb;simp only[hup,Bool.not_true]at hD;rcases hQ.keys with⟨e,_⟩|⟨kb,kc,Z,e1,e2,e3,e4,hZ,e5⟩
  ·exact absurd e hkne
  ·have hqb:=hQ.blk;unfold qdO qdOf at hqb;simp only at hqb;rw[e3]at hqb;refine(sendUp_any u.S s.next u.m j0 v.k.C vq.q kb c.keys.length kc ps.length iv iu false false u.bp u.bv s.sent u.l c.kind c.val c.word key c.fatal c.id _ _ _ _ _ W hD hok.nx hok.mp hpv (fun p hp e=>f2 ((hids _).1 ⟨p,hp,e⟩)) (fun j hj=>(hids _).2 (f3 j hj)) hqb (List.getElem?_eq_some_iff.1 hkey).1 e4 (by omega) ⟨Z,hZ⟩ ((blkCell hZ _).trans (e5 _ _ hkey)) (hcok.w.cm.right hkne) hk8 hcok.w.cm.v40 hok.bpv hok.row (by have:=hbd s (List.mem_of_getElem? hs);omega)).mono ?_;rintro e w' ⟨rfl,bv',h1,h2,h3,h4,h5⟩;refine⟨rfl,vs.set (ownerN sv pt key) {u with bp:= .pointer (some ⟨u.S,7,none⟩),bv:=bv',l:=u.l++[((s.next+j0) % 65536,partV v.k.C vq.q ps.length)]},?_⟩
   obtain⟨n1,n2,n3,n4,n5⟩:=hok.nS;have kf:Chg u.foot W w':=h4.more (fun b hb=>by simp[SrvV.foot]at hb⊢;rcases hb with e|e|e<;>simp[e]);have hnhb:∀b,u.hb=some b→b∉u.S::u.m::u.bv.ownBlock.toList:=fun b hb hm=>by
    simp at hm;rcases hm with e|e|e
    ·exact n2 (by rw[hb,e])
    ·exact n4 (by rw[hb,e])
    ·exact hok.ab b e hb
   have hbl:∀b,u.hb=some b→b<W.heap.size:=fun b hb=>hok.old b (by simp[SrvV.foot,hb])
   have hnew:SrvAt w' {u with bp:= .pointer (some ⟨u.S,7,none⟩),bv:=bv',l:=u.l++[((s.next+j0) % 65536,partV v.k.C vq.q ps.length)]} {s with next:=(s.next+j0+1) % 65536,sent:=s.sent++(sentB c.kind key c.val ((s.next+j0) % 65536)).data.toList}:=by
    refine⟨⟨⟨iv,iu,?_,HH.other (fun b hb=>h4.block b (hbl b hb) (hnhb b hb)),hz⟩,hne⟩,h2,.inr rfl,h3,Nat.mod_lt _ (by decide),fun b hb hb2=>?_⟩
    ·simp only[hup,Bool.not_true]
     exact h1
    ·simp only at hb hb2;rcases h5 with e|⟨g',e,hg⟩
     ·exact hok.ab b (by rw[←e];exact hb) hb2
     ·rw[e]at hb;cases hb;have:=hbl _ hb2;omega
   have hlu:Later W u.foot (SrvV.foot {u with bp:= .pointer (some ⟨u.S,7,none⟩),bv:=bv',l:=u.l++[((s.next+j0) % 65536,partV v.k.C vq.q ps.length)]}):=fun b hb=>by
    unfold SrvV.foot at hb⊢;simp at hb⊢;rcases hb with e|e|e|e
    ·simp[e]
    ·simp[e]
    ·simp[e]
    ·rcases h5 with e2|⟨g',e2,hg⟩
     ·rw[e2]at e;simp[e]
     ·rw[e2]at e;cases e;exact .inr hg
   obtain⟨r1,r2⟩:=h.srv.step hu kf hnew hlu;have hcli:CliAt w' win v ⟨d,st,qs0++[⟨c,ps++[.op (ownerN sv pt key) ((s.next+j0) % 65536)]++List.replicate r .un⟩],told⟩:=by
    have kk:∀b∈v.foot,w'.heap[b]?=W.heap[b]?:=fun b hb=>kf.block b (h.cli.old b hb) (fun hm=>h.ap b hb (mem_feetS.2 ⟨_,u,hu,hm⟩))
    have:=h.cli.quTo (x':=⟨c,ps++ .op (ownerN sv pt key) ((s.next+j0) % 65536)::List.replicate r .un⟩) hvq hxq (fun b hb _=>kk b hb) ((hQ.keep (fun b hb=>kk b (List.mem_append.2 (.inr (mem_feetQ.2 ⟨vq,List.mem_of_getElem? hvq,hb⟩))))).toOp _ _) rfl (hcok.part (p':= .op (ownerN sv pt key) ((s.next+j0) % 65536)) trivial);rw[set_last]at this;simpa using this
   have hal:Chg (allQ v vs) W w':=kf.more (fun b hb=>List.mem_append.2 (.inr (mem_feetS.2 ⟨_,u,hu,hb⟩)));refine⟨h.sentTo hal hcli r1 r2 (fun j u' hu'=>?_) (by rw[List.length_set];exact h.len) (fun o u' hu'=>?_),hal,(Later.refl W (allQ v vs)).app (Nat.le_refl _) (Later.refl _ _) r2⟩
   ·rw[List.getElem?_set]at hu';split at hu'
    ·rename_i eo;subst eo;split at hu'
     ·cases hu';exact⟨u,hu,rfl⟩
     ·cases hu'
    ·exact⟨u',hu',rfl⟩
   ·have eq1:opnV v.k.C v.qi (qs0++[(⟨c,ps++[.op (ownerN sv pt key) ((s.next+j0) % 65536)]++List.replicate r .un⟩:QS)])=opnV v.k.C v.qi (qs0++[(⟨c,ps++List.replicate (r+1) .un⟩:QS)])++[(ownerN sv pt key,(s.next+j0) % 65536,partV v.k.C vq.q ps.length)]:=by
     rw[hqi,opnV_last _ _ _ _ _ _ _ hql,opnV_last _ _ _ _ _ _ _ hql,opQ_app,List.append_assoc];simp[opQ]
    show MapR o u'.l (exV++opnV v.k.C v.qi (qs0++[(⟨c,ps++[.op (ownerN sv pt key) ((s.next+j0) % 65536)]++List.replicate r .un⟩:QS)]));rw[eq1,←List.append_assoc];rw[List.getElem?_set]at hu';split at hu'
    ·rename_i eo;subst eo;split at hu'
     ·cases hu';exact hMR.snoc _ _ (fun p hp e=>f2 ((hids _).1 ⟨p,hp,e⟩))
     ·cases hu'
    ·rename_i eo;exact(h.mr o u' hu').else _ _ eo
 ·rw[if_neg hup];simp only
  have hup':s.up=false:=by simpa using hup
  obtain⟨iv,iu,ip,ic,hD⟩:=hok.blk;rw[hup']at hD;obtain⟨en,_⟩:=qd_fl vq c ps (List.replicate r .un);have hqb:=hQ.blk;unfold qdO at hqb;have eqn:(qdOf vq ⟨c,ps++ .un::List.replicate r .un⟩).n=QS.n ⟨c,ps++ .fl::List.replicate r .un⟩+1:=en;rw[eqn]at hqb;have hnl:QS.n ⟨c,ps++ .fl::List.replicate r .un⟩≤1000:=by
   have:QS.n ⟨c,ps++ .fl::List.replicate r .un⟩≤(ps++PS.fl::List.replicate r PS.un).length:=List.countP_le_length;simp at this;omega
  refine(sendDown_any u.S s.next u.m v.k.C vq.q ps.length iv iu ip ic u.bp u.bv _ _ _ _ _ _ _ _ _ _ _ W hD hqb hnl).mono ?_;rintro e w' ⟨rfl,h1,h2⟩;refine⟨rfl,vs,?_⟩;have hqf:vq.q∈v.foot:=List.mem_append.2 (.inr (mem_feetQ.2 ⟨vq,List.mem_of_getElem? hvq,by simp[QI.foot]⟩));have hcli:CliAt w' win v ⟨d,st,qs0++[⟨c,ps++[.fl]++List.replicate r .un⟩],told⟩:=by
   have:=h.cli.quTo (x':=⟨c,ps++ .fl::List.replicate r .un⟩) hvq hxq (fun b hb hn=>h2.block b (h.cli.old b hb) (by simp;intro e;exact hn (by rw[e];simp[QI.foot]))) (hQ.toFl h2 h1) rfl (hcok.part (p':= .fl) trivial);rw[set_last]at this;simpa using this
  have hal:Chg (allQ v vs) W w':=h2.more (fun b hb=>by simp at hb;rw[hb];exact List.mem_append.2 (.inl hqf));refine⟨h.sentTo hal hcli (h.srv.keep (fun b hb=>h2.block b (h.srv.old b hb) (by simp;intro e;exact h.ap _ hqf (by rw[←e];exact hb)))) (Later.refl _ _) (fun j u' hu'=>⟨u',hu',rfl⟩) h.len (fun o u' hu'=>?_),hal,Later.refl _ _⟩;have eq1:opnV v.k.C v.qi (qs0++[(⟨c,ps++[.fl]++List.replicate r .un⟩:QS)])=opnV v.k.C v.qi (qs0++[(⟨c,ps++List.replicate (r+1) .un⟩:QS)]):=by
   rw[hqi,opnV_last _ _ _ _ _ _ _ hql,opnV_last _ _ _ _ _ _ _ hql,opQ_app];simp[opQ]
  show MapR o u'.l (exV++opnV v.k.C v.qi (qs0++[(⟨c,ps++[.fl]++List.replicate r .un⟩:QS)]));rw[eq1];exact h.mr o u' hu'
set_option maxHeartbeats 2000000
set_option maxRecDepth 100000
theorem jsendQ {w:World}{X sv pt win g sc:Nat}{cv:Value}{exV:List (Nat×Nat×Value)}{v:CliV}{d:Int}{st:St}{told:List UInt8}{qs0:List QS}{qi0:List QI}{vq:QI}{c:Cmd}{vs:List SrvV}{ss:List SrvQ}(h:RunQ w X sv pt win g sc cv exV v ⟨d,st,qs0++[⟨c,List.replicate c.keys.length .un⟩],told⟩ vs ss)(hqi:v.qi=qi0++[vq])(hq1:qs0.length≤1000)(hbd:∀s∈ss,s.sent.length+5000≤100000000000):Calls Tryz.prog 91 #[.pointer (some ⟨X,0,none⟩),.pointer (some ⟨v.k.C,0,none⟩),.pointer (some ⟨vq.q,0,none⟩)] w fun e w'=>e= .returned (.tuple #[])∧∃vs',RunQ w' X sv pt win g sc cv exV v ⟨d,st,qs0++[⟨c,(sendsK sv pt c.kind c.val (forg exV++opQs qs0) ss c.keys).2⟩],told⟩ vs' (sendsK sv pt c.kind c.val (forg exV++opQs qs0) ss c.keys).1∧Chg (allQ v vs) w w'∧Later w (allQ v vs) (allQ v vs'):=by
 have hql0:qi0.length=qs0.length:=by have:=h.cli.qu.len;rw[hqi]at this;simpa using this
 have hvq:v.qi[qs0.length]?=some vq:=by rw[hqi,←hql0];exact get_last _ _
 have HQu:Hid (∀(wr:World) (ps:List PS) (vs':List SrvV) (ss':List SrvQ),RunQ wr X sv pt win g sc cv exV v ⟨d,st,qs0++[⟨c,ps⟩],told⟩ vs' ss'→QuAt wr vq ⟨c,ps⟩):=fun wr ps vs' ss' hr=>hr.cli.qu.qu _ _ _ hvq (get_last _ _)
 have hQ:=HQu.out _ _ _ _ h;have hcok:=h.cli.ok ⟨c,List.replicate c.keys.length .un⟩ (by simp);simp only at hcok;have hk4:c.keys.length≤4:=hcok.w.cm.k4;have hqb:=hQ.blk;unfold qdO at hqb;by_cases hk:c.keys=[]
 ·rcases hQ.keys with⟨_,_,ka,kc,e⟩|⟨b,kc,Z,_,_,e,_⟩
  ·rw[show(qdOf vq ⟨c,List.replicate c.keys.length .un⟩).kv=vq.kv from rfl,e]at hqb;refine(jsend_nil X v.k.C vq.q (.slice ka 0 kc) ka kc _ _ _ _ _ _ _ _ _ _ w hqb).mono ?_;rintro e w' ⟨rfl,rfl⟩;refine⟨rfl,vs,?_,Chg.refl _ _,Later.refl _ _⟩;rw[hk]at h⊢;exact h
  ·simp only[hk,List.length_nil]at e;rw[show(qdOf vq ⟨c,List.replicate c.keys.length .un⟩).kv=vq.kv from rfl,e]at hqb;refine(jsend_nil X v.k.C vq.q (.slice none 0 0) _ kc _ _ _ _ _ _ _ _ _ _ w hqb).mono ?_;rintro e w' ⟨rfl,rfl⟩;refine⟨rfl,vs,?_,Chg.refl _ _,Later.refl _ _⟩;rw[hk]at h⊢;exact h
 obtain⟨kb,kc,hkv,hkc⟩:∃kb kc,vq.kv= .slice (some ⟨kb,0,none⟩) c.keys.length kc∧c.keys.length≤kc:=by
  rcases hQ.keys with⟨e,_⟩|⟨b,kc,Z,_,_,e,e4,_⟩
  ·exact absurd e hk
  ·exact⟨b,kc,e,e4⟩
 have HKb:Hid (∀(wr:World) (ps:List PS),QuAt wr vq ⟨c,ps⟩→kb<wr.heap.size∧∀(i:Nat) (key:ByteArray),c.keys[i]?=some key→wr.cell? ⟨kb,i,none⟩=some (.string key)):=fun wr ps hr=>by
  rcases hr.keys with⟨e,_⟩|⟨b,kc',Z,_,_,e,_,hZ,e5⟩
  ·exact absurd e hk
  ·rw[hkv]at e;cases e;exact⟨blkLt hZ,fun i key hi=>(blkCell hZ i).trans (e5 i key hi)⟩
 have q1:w.cell? ⟨vq.q,1,none⟩=some (.slice (some ⟨kb,0,none⟩) c.keys.length kc):=(blkCell hqb 1).trans (by show some vq.kv=_;rw[hkv]);have hql:=blkLt hqb;have hs1:=h.s1;have hs4:=h.s4;have hsc:=h.sc_;have hpt:=h.pt_;have hk8:=hcok.w.cm.k8;have hv40:=hcok.w.cm.v40;have HA:=hide' (And.intro h (And.intro hqi (And.intro hq1 (And.intro hbd (And.intro hk8 hv40)))));obtain⟨kn,hkn⟩:∃kn,c.keys.length=kn:=⟨_,rfl⟩
 have HKN:=hide' hkn;rw[hkn]at q1 hkc hk4;obtain⟨q,hq⟩:∃q,vq.q=q:=⟨_,rfl⟩
 obtain⟨C,hC⟩:∃C,v.k.C=C:=⟨_,rfl⟩
 have HQC:=hide' (And.intro hq hC);rw[hq]at q1 hql⊢;rw[hC];clear h hqi hq1 hbd hk8 hv40 hcok hqb hQ hvq hkv hkn hq hC hql0 hk;go_enter Tryz.func91,Tryz.ntmps91;go_wp2_with fail
 go_loopw [15] (fun i wr=>∃(j:Nat) (vs':List SrvV),j≤kn∧i= .int .i64 (j:Int)∧Hid (RunQ wr X sv pt win g sc cv exV v ⟨d,st,qs0++[⟨c,(sendsK sv pt c.kind c.val (forg exV++opQs qs0) ss (c.keys.take j)).2++List.replicate (kn-j) .un⟩],told⟩ vs' (sendsK sv pt c.kind c.val (forg exV++opQs qs0) ss (c.keys.take j)).1∧Chg (allQ v vs) w wr∧Later w (allQ v vs) (allQ v vs'))) (fun i _=>kn-(intOf i).toNat)
 case atStart=>exact⟨0,vs,Nat.zero_le _,rfl,by rw[Nat.sub_zero,←HKN.out];exact HA.out.1,Chg.refl _ _,Later.refl _ _⟩
 case round=>
  obtain⟨j,vs',hj,rfl,HJ⟩:=hrel;by_cases hlt:j<kn
  ·have hlt':(j:Int)<(kn:Int):=by omega
   have hQr:=HQu.out _ _ _ _ HJ.out.1;obtain⟨lk,hkk⟩:=HKb.out _ _ hQr;obtain⟨key,hkey⟩:∃key,c.keys[j]?=some key:=⟨_,List.getElem?_eq_getElem (by rw[HKN.out];exact hlt)⟩
   have ck:=hkk j key hkey;have hk8:=HA.out.2.2.2.2.1 key (List.mem_of_getElem? hkey);have ho:=ownerN_lt sv pt key hs1;have hpl:(sendsK sv pt c.kind c.val (forg exV++opQs qs0) ss (c.keys.take j)).2.length=j:=by
    rw[(sendsK_len sv pt c.kind c.val (forg exV++opQs qs0) ss (c.keys.take j)).2,List.length_take,HKN.out];omega
   have er:kn-j=(kn-(j+1))+1:=by omega
   have hbds:∀s∈(sendsK sv pt c.kind c.val (forg exV++opQs qs0) ss (c.keys.take j)).1,s.sent.length+1000≤100000000000:=fun s hs=>by
    have:=(sendsK_bd sv pt c.kind c.val HA.out.2.2.2.2.2 (forg exV++opQs qs0) ss (100000000000-5000) (fun u hu=>by
     obtain⟨i,hi,e⟩:=List.mem_iff_getElem.1 hu;obtain⟨v',s',e1,e2,e3⟩:=HA.out.1.srv.get (j:=i) (by rw[HA.out.1.srv.len];exact hi);rw[List.getElem?_eq_getElem hi,e]at e2;cases e2;have:=HA.out.2.2.2.1 u hu;exact⟨e3.nx,by omega⟩) (c.keys.take j) (fun x hx=>HA.out.2.2.2.2.1 x (List.mem_of_mem_take hx)) s hs).2
    rw[List.length_take,HKN.out]at this;omega
   have hPS:∀nq:Nat,∃u,vs'[ownerN sv pt key]?=some u∧Calls Tryz.prog 132 #[.pointer (some ⟨u.S,0,none⟩),partV C q j] (wr.drewN nq) fun e w'=>e= .returned (.tuple #[])∧∃vs2,RunQ w' X sv pt win g sc cv exV v ⟨d,st,qs0++[⟨c,(sendsK sv pt c.kind c.val (forg exV++opQs qs0) ss (c.keys.take (j+1))).2++List.replicate (kn-(j+1)) .un⟩],told⟩ vs2 (sendsK sv pt c.kind c.val (forg exV++opQs qs0) ss (c.keys.take (j+1))).1∧Chg (allQ v vs') (wr.drewN nq) w'∧Later (wr.drewN nq) (allQ v vs') (allQ v vs2):=fun nq=>by
    have hr:=HJ.out.1.below (below_drewN (Below.refl _ _) nq);rw[er]at hr;obtain⟨u,hu,hc⟩:=part_sent hr HA.out.2.1 (key:=key) (by rw[hpl];exact hkey) HA.out.2.2.1 hbds;refine⟨u,hu,?_⟩;have ek:c.keys.take (j+1)=c.keys.take j++[key]:=by rw[List.take_add_one,hkey];rfl
    rw[hpl,HQC.out.1,HQC.out.2]at hc;rw[ek,sendsK_snoc];exact hc
   obtain⟨u,hu,_⟩:=hPS 0;obtain⟨Zg,hgb,hgz⟩:=HJ.out.1.gb;have cg:wr.cell? ⟨g,ownerN sv pt key,none⟩=some (.pointer (some ⟨u.S,0,none⟩)):=(blkCell hgb _).trans (hgz _ u hu);have HRo:Hid (∀W,Calls Tryz.prog 51 #[.int .i64 (sv:Int),.int .i64 (pt:Int),.string key] W fun e w'=>e= .returned (.int .i64 ((ownerN sv pt key:Nat):Int))∧w'=W):=fun W=>rowner_any sv pt key W hs4 hpt (by unfold maxLen;omega)
   obtain⟨x0,x1,_,_,x4,_⟩:=juCells HJ.out.1.blk;have lX:=blkLt HJ.out.1.blk;have lg:=blkLt hgb;have HPS:=hide' (And.intro hPS hu);generalize hon:ownerN sv pt key=o at*;have HON:=hide' hon;have hosc:o<sc:=by omega
   clear hgb hgz hkk hQr hkey hPS hon hbds hpl er hu;go_wp2_with fail
   go_quiet ((go_at_call 51;exact Calls.quiet_of_same (HRo.out _)))
   go_wp2_with fail
   obtain⟨u2,hu2,hc2⟩:=HPS.out.1 nq;have hu3:u2=u:=by rw[HPS.out.2]at hu2;cases hu2;rfl
   rw[hu3]at hc2;have HC2:=hide' hc2;clear hc2 hu2 hu3;unfold partV at HC2;go_at_call 132;refine HC2.out.mono ?_;rintro e w3 ⟨rfl,vs2,h1,h2,h3⟩;have H3:=hide' (And.intro h1 (And.intro h2 h3));clear h1 h2 h3 HC2;go_wp2;go_roundw;case rel=>
    obtain⟨h1,h2,h3⟩:=H3.out;obtain⟨_,hJ4,hJ5⟩:=HJ.out;have h2':Chg (allQ v vs') wr w3:=⟨h2.os,h2.tape,h2.output,h2.size,h2.block⟩
    exact⟨j+1,vs2,by omega,by go_num,h1,hJ4.trans h2' hJ5,hJ5.trans h3 hJ4.size⟩
   case measure=>simp[intOf];omega
  ·have hjn:j=kn:=by omega
   subst hjn;go_wp2;go_end0;have h:=HJ.out;rw[←HKN.out,List.take_length,Nat.sub_self]at h;simp only[List.replicate_zero,List.append_nil]at h;exact⟨rfl,vs',h⟩
end Go.Proofs.YtlonjggfnleolaaGreatDoor
