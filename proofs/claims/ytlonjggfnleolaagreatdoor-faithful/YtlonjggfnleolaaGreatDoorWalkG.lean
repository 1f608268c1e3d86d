import Derived.Test.YtlonjggfnleolaaGreatDoorSpec
namespace Go.Proofs.YtlonjggfnleolaaGreatDoor
open Go.RowKit
set_option linter.unusedVariables false
set_option maxHeartbeats 2000000
set_option maxRecDepth 20000
variable {bs:List UInt8}{s:WS}
structure WalkG (w:World)(B:Nat)(a:Option Addr)(n c:Nat)(bs:List UInt8)(s:WS):Prop where
 c0:w.cell? ⟨B,0,none⟩=some (.slice a n c)
 c1:w.cell? ⟨B,1,none⟩=some (.int .i64 s.pos)
 c2:w.cell? ⟨B,2,none⟩=some (.bool s.wrong)
 c3:w.cell? ⟨B,3,none⟩=some (.bool s.short)
 fr:∀j,w.frozen? ⟨B,j,none⟩=false
 len:bs.length=n
 cap:n≤c
 small:n≤1000000000000000
 pos:s.pos≤n
 gB:∀g o,a=some ⟨g,o,none⟩→g≠B
 by_:∀i,i<n→∃g o,a=some ⟨g,o,none⟩∧w.cell? ⟨g,o+i,none⟩=some (.int .u8 (byAt bs i))
theorem WalkG.kept {w w':World}{B:Nat}{a:Option Addr}{n c:Nat}{s':WS}(h:WalkG w B a n c bs s)(k:Only B w w')
 (c0:w'.cell? ⟨B,0,none⟩=some (.slice a n c)) (c1:w'.cell? ⟨B,1,none⟩=some (.int .i64 s'.pos)) (c2:w'.cell? ⟨B,2,none⟩=some (.bool s'.wrong)) (c3:w'.cell? ⟨B,3,none⟩=some (.bool s'.short))
 (f:∀j,w'.frozen? ⟨B,j,none⟩=w.frozen? ⟨B,j,none⟩) (hp:s'.pos≤n):WalkG w' B a n c bs s':=
 ⟨c0,c1,c2,c3,fun j=>(f j).trans (h.fr j),h.len,h.cap,h.small,hp,h.gB,fun i hi=>by
  obtain⟨g,o,e,hc⟩:=h.by_ i hi;exact⟨g,o,e,(k.cell (p:=⟨g,o+i,none⟩) (h.gB g o e)).trans hc⟩⟩
def nxB (bs:List UInt8)(s:WS):Bool:=(s.look bs.length).short || s.wrong
theorem nextG (w:World)(B:Nat)(a:Option Addr)(n c:Nat)(bs:List UInt8)(s:WS)(W:WalkG w B a n c bs s):Calls Tryz.prog 258 #[.pointer (some ⟨B,0,none⟩)] w fun e w'=>e= .returned (.tuple #[.int .u8 (if nxB bs s then 0 else(byAt bs s.pos:Int)),.bool (!nxB bs s)])∧WalkG w' B a n c bs (s.look bs.length)∧Only B w w':=by
 have HW:=hide' W;obtain⟨p,wr,sh⟩:=s;obtain⟨c0,c1,c2,c3,fr,len,cap,sm,hp,gB,hby⟩:=W;simp only at c1 c2 c3 hp;have HN:=hide' len;have hnx:nxB bs ⟨p,wr,sh⟩=((sh || decide (p=n)) || wr):=by simp[nxB,WS.look,len]
 have hlk:WS.look bs.length ⟨p,wr,sh⟩=⟨p,wr,sh || decide (p=n)⟩:=by simp[WS.look,len]
 rw[hnx,hlk];clear hnx hlk;cases sh with
 |true=>
  simp only[Bool.true_or,if_true,Bool.not_true]
  have d3:(w.setCell ⟨B,3,none⟩ (.bool true)).cell? ⟨B,3,none⟩=some (.bool true):=World.cell?_setCell_same' _ _ _ (by rw[c3];rfl);clear len hby gB;go_enter Tryz.func258,Tryz.ntmps258;go_wp2;go_region
  go_wp2;go_ret2;have hO:Only B w ((w.setCell ⟨B,3,none⟩ (.bool true)).drew):=((Only.refl B w).setCell rfl _).drew;refine⟨rfl,HW.out.kept hO (by go_simp) (by go_simp) (by go_simp) (by go_simp) (fun j=>by go_simp) hp,hO⟩
 |false=>
  by_cases hpn:p=n
  ·subst hpn;simp only[decide_true,Bool.false_or,Bool.true_or,if_true,Bool.not_true]
   have d3:(w.setCell ⟨B,3,none⟩ (.bool true)).cell? ⟨B,3,none⟩=some (.bool true):=World.cell?_setCell_same' _ _ _ (by rw[c3];rfl);clear len hby gB;go_enter Tryz.func258,Tryz.ntmps258;go_wp2;go_region
   go_wp2;go_ret2;have hO:Only B w ((w.setCell ⟨B,3,none⟩ (.bool true)).drew):=((Only.refl B w).setCell rfl _).drew;refine⟨rfl,HW.out.kept hO (by go_simp) (by go_simp) (by go_simp) (by go_simp) (fun j=>by go_simp) hp,hO⟩
  ·have e1:((p:Int)==(n:Int))=false:=by rw[beq_eq_false_iff_ne];omega
   have d3:(w.setCell ⟨B,3,none⟩ (.bool false)).cell? ⟨B,3,none⟩=some (.bool false):=World.cell?_setCell_same' _ _ _ (by rw[c3];rfl);have hd:decide (p=n)=false:=by simp[hpn]
   rw[hd];clear hd;cases wr with
   |true=>
    simp only[Bool.false_or,if_true,Bool.not_true]
    clear len hby gB;go_enter Tryz.func258,Tryz.ntmps258;go_wp2;go_region
    go_wp2;go_ret2;have hO:Only B w ((w.setCell ⟨B,3,none⟩ (.bool false)).drew):=((Only.refl B w).setCell rfl _).drew;refine⟨rfl,HW.out.kept hO (by go_simp) (by go_simp) (by go_simp) (by go_simp) (fun j=>by go_simp) hp,hO⟩
   |false=>
    simp only[Bool.false_or,Bool.false_eq_true,if_false,Bool.not_false]
    obtain⟨g,o,rfl,cb⟩:=hby p (by omega);have hgB:=gB g o rfl;clear len hby gB;generalize byAt bs p=x at*;go_enter Tryz.func258,Tryz.ntmps258;go_wp2;go_region
    go_wp2;go_region
    go_wp2;go_ret2;have hO:Only B w ((w.setCell ⟨B,3,none⟩ (.bool false)).drew).drew:=(((Only.refl B w).setCell rfl _).drew).drew;refine⟨rfl,HW.out.kept hO (by go_simp) (by go_simp) (by go_simp) (by go_simp) (fun j=>by go_simp) hp,hO⟩
theorem nxB_false (h:nxB bs s=false):s.look bs.length=s∧s.wrong=false∧s.short=false∧s.pos≠bs.length:=by
 obtain⟨p,wr,sh⟩:=s;simp only[nxB,WS.look,Bool.or_eq_false_iff,decide_eq_false_iff_not]at h;obtain⟨⟨h1,h2⟩,h3⟩:=h;refine⟨?_,h3,h1,h2⟩;simp only[WS.look,h1,Bool.false_or]
 simp[h2]
theorem expectG (w:World)(B:Nat)(a:Option Addr)(n c:Nat)(bs:List UInt8)(s:WS)(b:UInt8)(W:WalkG w B a n c bs s):Calls Tryz.prog 253 #[.pointer (some ⟨B,0,none⟩),.int .u8 (b.toNat:Int)] w fun e w'=>e= .returned (.tuple #[])∧WalkG w' B a n c bs (expectW bs b s)∧Only B w w':=by
 have HX:=hide' (nextG w B a n c bs s W);cases hn:nxB bs s with
 |true=>
  have he:expectW bs b s=s.look bs.length:=by unfold expectW;rw[if_pos];exact hn
  rw[he];rw[hn]at HX;go_enter Tryz.func253,Tryz.ntmps253;go_wp2_with fail
  go_at_call 258;refine HX.out.mono ?_;rintro e w1 ⟨rfl,W1,O1⟩;have HW:=hide' W1;clear W1;go_wp2;refine bodyPost_ret (results_none rfl _ _ _) rfl ?_;exact⟨rfl,HW.out,O1⟩
 |false=>
  obtain⟨hl,hw,hs,hp⟩:=nxB_false hn;obtain⟨p,wr,sh⟩:=s;simp only at hw hs hp;subst hw;subst hs;have he:expectW bs b ⟨p,false,false⟩=if bs.getD p 0=b then⟨p+1,false,false⟩else⟨p,true,false⟩:=by
   unfold expectW;rw[if_neg];show¬nxB bs ⟨p,false,false⟩=true;rw[hn];simp
  rw[he];rw[hn,hl]at HX;clear he;have hlen:=W.len;have hpos:p≤n:=W.pos;have sm:=W.small;have hby:byAt bs p=(bs.getD p 0).toNat:=rfl;rw[hby]at HX;generalize bs.getD p 0=x at*;by_cases hx:x=b
  ·subst hx;rw[if_pos rfl];go_enter Tryz.func253,Tryz.ntmps253;go_wp2_with fail
   go_at_call 258;refine HX.out.mono ?_;rintro e w1 ⟨rfl,W1,O1⟩;have HW:=hide' W1;obtain⟨c0,c1,c2,c3,fr,_,_,_,_,_,_⟩:=W1;simp only at c1 c2 c3;clear W hby hl;have d2:(w1.setCell ⟨B,2,none⟩ (.bool false)).cell? ⟨B,2,none⟩=some (.bool false):=World.cell?_setCell_same' _ _ _ (by rw[c2];rfl);go_wp2;go_end0;have hO:Only B w1 ((w1.setCell ⟨B,2,none⟩ (.bool false)).setCell ⟨B,1,none⟩ (.int .i64 ((p:Int)+1))):=((Only.refl B w1).setCell rfl _).setCell rfl _;refine⟨rfl,HW.out.kept hO (by go_simp) (by go_simp) (by go_simp) (by go_simp) (fun j=>by go_simp) (by show p+1≤n;omega),O1.trans hO⟩
  ·rw[if_neg hx];have hx':((x.toNat:Int)==(b.toNat:Int))=false:=by
    rw[beq_eq_false_iff_ne];intro h;apply hx;apply UInt8.toNat_inj.1;omega
   have hx2:((x.toNat:Int) != (b.toNat:Int))=true:=by simp only[bne,hx',Bool.not_false]
   go_enter Tryz.func253,Tryz.ntmps253;go_wp2_with fail
   go_at_call 258;refine HX.out.mono ?_;rintro e w1 ⟨rfl,W1,O1⟩;have HW:=hide' W1;obtain⟨c0,c1,c2,c3,fr,_,_,_,_,_,_⟩:=W1;simp only at c1 c2 c3;clear W hby hl;have d2:(w1.setCell ⟨B,2,none⟩ (.bool true)).cell? ⟨B,2,none⟩=some (.bool true):=World.cell?_setCell_same' _ _ _ (by rw[c2];rfl);go_wp2;go_end0;have hO:Only B w1 (w1.setCell ⟨B,2,none⟩ (.bool true)):=(Only.refl B w1).setCell rfl _;refine⟨rfl,HW.out.kept hO (by go_simp) (by go_simp) (by go_simp) (by go_simp) (fun j=>by go_simp) (by show p≤n;omega),O1.trans hO⟩
end Go.Proofs.YtlonjggfnleolaaGreatDoor
