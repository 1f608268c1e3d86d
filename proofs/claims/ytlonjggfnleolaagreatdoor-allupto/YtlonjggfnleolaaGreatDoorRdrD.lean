import Derived.Test.YtlonjggfnleolaaGreatDoorRdrC
namespace Go.Proofs.YtlonjggfnleolaaGreatDoor
open Go.RowKit Go.Proofs.Tryz
set_option linter.unusedVariables false
set_option maxHeartbeats 2000000
set_option maxRecDepth 20000
variable {w w' W f a h:World}{r:Option iC}{d e S D t:Nat}{hb:Option Nat}{s:St}
structure SV where
 k:Int
 ka:Option Addr
 kn:Nat
 kc:Nat
 val:ByteArray
 wd:ByteArray
 ft:Bool
 id:Int
 used:Int
 sk:Bool
def SV.arr (s:SV):Array Value:=#[.int .i64 s.k,.slice s.ka s.kn s.kc,.string s.val,.string s.wd,.bool s.ft,.int .i64 s.id,.int .i64 s.used,.bool s.sk]
def SV.is (W:World)(d:Nat)(s:SV)(r:Option iC):Prop:=
 match r with
 |none=>s=⟨0,none,0,0,⟨#[]⟩,⟨#[]⟩,false,0,0,false⟩
 |some t=>s.k=t.c.kind/\gV W d (.slice s.ka s.kn s.kc) t.c.keys/\s.val=t.c.val/\s.wd=t.c.word/\s.ft=t.c.fatal/\s.id=t.c.id/\s.used=t.used/\s.sk=t.skip
theorem Fj {e:Ending}(h:kG w w' r e):∃s:SV,e= .returned (.agg #[.int .i64 s.k,.slice s.ka s.kn s.kc,.string s.val,.string s.wd,.bool s.ft,.int .i64 s.id,.int .i64 s.used,.bool s.sk])/\s.is w' w.heap.size r:=by
 cases r with
 |none=>exact⟨⟨0,none,0,0,⟨#[]⟩,⟨#[]⟩,false,0,0,false⟩,h,rfl⟩
 |some t=>
  obtain⟨g,b,a⟩:=h;obtain⟨c,d,f,rfl⟩:=a.form;exact⟨⟨t.c.kind,c,d,f,t.c.val,t.c.word,t.c.fatal,t.c.id,t.used,t.skip⟩,b,rfl,a,rfl,rfl,rfl,rfl,rfl,rfl⟩
theorem gV.other {v:Value}{a:List ByteArray}(h:gV W d v a)(n:e<=d)(k:∀b c (Z:Array Value),W.heap[b]?=some (.cells Z 9 (0,0))->Z.size=c->d<=b->f.heap[b]?=W.heap[b]?):gV f e v a:=by
 rcases h with h|⟨b,c,j,l,Z,g,i,m⟩
 .exact .inl h
 .exact .inr ⟨b,c,j,by omega,Z,(k b c Z g i l).trans g,i,m⟩
theorem SV.CP {s:SV}(h:s.is W d r)(a:e<=d)(k:∀b c (Z:Array Value),W.heap[b]?=some (.cells Z 9 (0,0))->Z.size=c->d<=b->f.heap[b]?=W.heap[b]?):s.is f e r:=by
 cases r with
 |none=>exact h
 |some t=>exact⟨h.1,h.2.1.other a k,h.2.2⟩
structure QL (w W:World)(S:Nat)(s:SV)(r:Option iC):Prop where
 hS:W.heap[S]?=some (.cells s.arr 255 (0,0))
 h0:W.heap[w.heap.size]?=some (.cells tK 36 (0,0))
 lS:w.heap.size<S
 is:s.is W w.heap.size r
 jx:Below w.heap.size w W
theorem MC (h:w.heap[S]?=some (.cells xj 255 (0,0)))(a b c d e f g i:Value):((((((((w.setCell ⟨S,0,none⟩ a).setCell ⟨S,1,none⟩ b).setCell ⟨S,2,none⟩ c).setCell ⟨S,3,none⟩ d).setCell ⟨S,4,none⟩ e).setCell ⟨S,5,none⟩ f).setCell ⟨S,6,none⟩ g).setCell ⟨S,7,none⟩ i).heap[S]?=some (.cells #[a,b,c,d,e,f,g,i] 255 (0,0)):=by
 have j:=dh (i:=0) h a;have k:=dh (i:=1) j b;have l:=dh (i:=2) k c;have m:=dh (i:=3) l d;have n:=dh (i:=4) m e;have o:=dh (i:=5) n f;have p:=dh (i:=6) o g;have q:=dh (i:=7) p i;rw[q];simp[xj,Array.setIfInBounds]
theorem Fk {s:SV}(f:Below w.heap.size w a)(g:a.heap[w.heap.size]?=some (.cells tK 36 (0,0)))(d:Below a.heap.size a h)(i:s.is h a.heap.size r):QL w (h.alloc (.cells #[.int .i64 s.k,.slice s.ka s.kn s.kc,.string s.val,.string s.wd,.bool s.ft,.int .i64 s.id,.int .i64 s.used,.bool s.sk] 255)) h.heap.size s r:=by
 have j:=cA g;have l:=d.size;have e:=f.trans (d.mono f.size);refine⟨du _ _,?_,by omega,SV.CP i f.size (fun b c Z k _ _=>cC _ _ _ (cA k)),e.alloc e.size _⟩;rw[cC _ _ _ (by omega)];exact(d.block _ j).trans g
theorem Fl {s:SV}(e:Below w.heap.size w a)(g:a.heap[w.heap.size]?=some (.cells tK 36 (0,0)))(i:a.heap[w.heap.size+1]?=some (.cells xj 255 (0,0)))(d:Below a.heap.size a h)(j:s.is h a.heap.size r):QL w ((((((((h.setCell ⟨w.heap.size+1,0,none⟩ (.int .i64 s.k)).setCell ⟨w.heap.size+1,1,none⟩ (.slice s.ka s.kn s.kc)).setCell ⟨w.heap.size+1,2,none⟩ (.string s.val)).setCell ⟨w.heap.size+1,3,none⟩ (.string s.wd)).setCell ⟨w.heap.size+1,4,none⟩ (.bool s.ft)).setCell ⟨w.heap.size+1,5,none⟩ (.int .i64 s.id)).setCell ⟨w.heap.size+1,6,none⟩ (.int .i64 s.used)).setCell ⟨w.heap.size+1,7,none⟩ (.bool s.sk)) (w.heap.size+1) s r:=by
 have k:=cA g;have l:=cA i;have f:=e.trans (d.mono e.size);refine⟨?_,?_,by omega,SV.CP j e.size (fun b c Z m _ n=>setOther (by omega) _ _ _ _ _ _ _ _),KO f (by omega) _ _ _ _ _ _ _ _⟩
 .exact MC ((d.block _ l).trans i) _ _ _ _ _ _ _ _
 .rw[setOther (by omega)];exact(d.block _ k).trans g
theorem kx.back {a:Option Addr}{n c:Nat}{l:List UInt8}(h:kx W a n c l)(hb:Below w.heap.size w W)(b:∀g o,a=some ⟨g,o,none⟩->g<w.heap.size):kx w a n c l:=
 ⟨h.len,h.cap,h.small,b,fun i d=>by
  obtain⟨g,o,e,f⟩:=h.Qb i d;exact⟨g,o,e,(hb.cell (p:=⟨g,o+i,none⟩) (b g o e)).symm.trans f⟩⟩
theorem PD.below (R:PD w D hb t s)(h:Below w.heap.size w w'):PD w' D hb t s:=by
 obtain⟨⟨v,u,c,H,a⟩,b⟩:=R;exact⟨⟨v,u,(h.block D (cA c)).trans c,H.other (fun k d=>h.block k (H.lt k d)),a⟩,b⟩
theorem II (w:World)(S:Nat)(a b c d e f:Value):
 ((((((w.setCell ⟨S,0,none⟩ a).setCell ⟨S,1,none⟩ b).setCell ⟨S,2,none⟩ c).setCell ⟨S,3,none⟩ d).setCell ⟨S,4,none⟩ e).setCell ⟨S,5,none⟩ f).heap.size=w.heap.size:=by simp
theorem uI {a:World}{B:Nat}(hb:Below B a w)(b:B<=S)(c d e f g h:Value):
 Below B a ((((((w.setCell ⟨S,0,none⟩ c).setCell ⟨S,1,none⟩ d).setCell ⟨S,2,none⟩ e).setCell ⟨S,3,none⟩ f).setCell ⟨S,4,none⟩ g).setCell ⟨S,5,none⟩ h):=
 (((((hb.setCell (p:=⟨S,0,none⟩) b _).setCell (p:=⟨S,1,none⟩) b _).setCell (p:=⟨S,2,none⟩) b _).setCell (p:=⟨S,3,none⟩) b _).setCell (p:=⟨S,4,none⟩) b _).setCell (p:=⟨S,5,none⟩) b _
theorem PD.lt (R:PD w D hb t s):D<w.heap.size/\∀b,hb=some b->b<w.heap.size:=by
 obtain⟨⟨v,u,a,H,c⟩,d⟩:=R;exact⟨cA a,H.lt⟩
theorem PD.other (R:PD w D hb t s)(d:w'.heap[D]?=w.heap[D]?)(e:∀b,hb=some b->w'.heap[b]?=w.heap[b]?):PD w' D hb t s:=by
 obtain⟨⟨v,u,f,H,a⟩,c⟩:=R;exact⟨⟨v,u,d.trans f,H.other e,a⟩,c⟩
theorem gV.apart {d b u:Nat}{Z:Array Value}(R:PD W D hb t s)(c:W.heap[b]?=some (.cells Z 9 (0,0))):b≠D/\some b≠hb:=by
 obtain⟨⟨v,u,e,⟨⟨f,⟨n,h⟩,o⟩,a⟩,i⟩,j⟩:=R;refine⟨?_,?_⟩
 .rintro rfl;rw[e]at c;simp[BE]at c
 .rintro rfl;rcases h with⟨rfl,_⟩|⟨g,k,l,rfl,_,m,_⟩
  .cases a
  .cases a;rw[m]at c;simp at c
theorem vC {wc e:World}{r:St}{u:Value}{v:List ByteArray}(a:Below w.heap.size w wc)(R:PD w D hb t s)(T:mP wc e D hb t r)(z:gV wc w.heap.size u v)(x:wc.heap[w.heap.size]?=some (.cells tK 36 (0,0)))(g i j l m n:Value):mP w ((((((e.setCell ⟨w.heap.size,0,none⟩ g).setCell ⟨w.heap.size,1,none⟩ i).setCell ⟨w.heap.size,2,none⟩ j).setCell ⟨w.heap.size,3,none⟩ l).setCell ⟨w.heap.size,4,none⟩ m).setCell ⟨w.heap.size,5,none⟩ n) D hb t r/\gV ((((((e.setCell ⟨w.heap.size,0,none⟩ g).setCell ⟨w.heap.size,1,none⟩ i).setCell ⟨w.heap.size,2,none⟩ j).setCell ⟨w.heap.size,3,none⟩ l).setCell ⟨w.heap.size,4,none⟩ m).setCell ⟨w.heap.size,5,none⟩ n) w.heap.size u v:=by
 obtain⟨⟨q,A,y⟩,f⟩:=T;obtain⟨J,B⟩:=R.lt;have C:=R.below a;have K:=cA x;refine⟨⟨⟨q,A.other (jB (by omega) _ _ _ _ _ _) (fun b d=>jB ?_ _ _ _ _ _ _),?_⟩,?_⟩,?_⟩
 .rcases y with h|h|⟨k,h,o⟩
  .have:=B b (by grind);omega
  .rw[h]at d;cases d
  .rw[h]at d;cases d;omega
 .exact lN.trans (a:=w) (.inl rfl) y a.size
 .refine⟨?_,?_,?_,?_,fun k o E F=>?_⟩
  .have:=uI (ct 0 e) (cG w.heap.size) g i j l m n;rw[this.os,f.os,a.os]
  .have:=uI (ct 0 e) (cG w.heap.size) g i j l m n;rw[this.tape,f.tape,a.tape]
  .have:=uI (ct 0 e) (cG w.heap.size) g i j l m n;rw[this.output,f.output,a.output]
  .rw[II];exact cP a.size f.size
  .rw[jB (by omega),f.block k (by omega) E F,a.block k o]
 .refine z.other (PC _) (fun b c Z p L M=>?_);obtain⟨H,I⟩:=gV.apart (d:=0) (u:=0) C p;rw[jB ?_,f.block b (cA p) H I];rintro rfl;rw[x]at p;simp at p
def rJ (w w':World)(D:Nat)(hb:Option Nat)(t:Nat)(s:St)(r:Option iC)(e:Ending):Prop:=
 match r with
 |none=>e= .returned (.tuple #[.agg tK,.bool false])/\PD w' D hb t s/\Below w.heap.size w w'
 |some x=>∃a b c,e= .returned (.tuple #[.agg #[.int .i64 x.c.kind,.slice a b c,.string x.c.val,.string x.c.word,.bool x.c.fatal,.int .i64 x.c.id],.bool true])/\gV w' w.heap.size (.slice a b c) x.c.keys/\mP w w' D hb t (fm s x)
theorem BJ (t f:Nat)(d:Int)(hm:∀w:World,(method 432 t (.agg #[]) "Read").run prog w= .ok (f,.agg #[]) w)(hn:∀w:World,(nilAhead 432 t (.agg #[]) "Read").run prog w= .ok (some false) w)(aL:∀(xs:Array Value) (w:World),(callFunc f xs).run prog w= .ok (.enter f xs) w)(D:Nat)(hb:Option Nat)(s:St)(aD:∀W a c,kx W a s.held.length c s.held->(a=none->c=0)->Calls prog f #[.agg #[],.slice a s.held.length c] W fun e w'=>kG W w' (fw d s.held) e/\Below W.heap.size W w')(w:World)(R:PD w D hb t s)(aM:s.held.length<=140737488355328):Calls prog 121 #[.pointer (some ⟨D,0,none⟩)] w fun e w'=>rJ w w' D hb t s (fw d s.held) e:=by
 have HR:=cb R;obtain⟨⟨v,u,hD,H,aN⟩,aO⟩:=R;obtain⟨d0,d1,d2,d3,d4,df⟩:=ou hD;have aE:=cA hD;have F:∀W,Below w.heap.size w W->PD W D hb t s:=fun W hW=>HR.out.below hW
 have ap:=cb F;have ac:Hid (∀W,Below w.heap.size w W->Calls prog 125 #[.pointer (some ⟨D,1,none⟩)] W fun e w'=>(∃a c,e= .returned (.slice a s.held.length c)/\kx w a s.held.length c s.held/\(a=none->c=0))/\∃q,w'=W.drewN q):=fun W hW=>by
  have aF:=(hW.block D aE).trans hD;obtain⟨e0,e1,e2,_⟩:=ou aF;refine(tI D u v hb s.held W (H.other (fun k hk=>hW.block k (H.lt k hk))) e1 e2).mono ?_;rintro e w' ⟨⟨a,c,he,ad,B,aG⟩,hq⟩;exact⟨⟨a,c,he,ad.back hW (fun g o ha=>H.lt g (aG g o ha)),B⟩,hq⟩
 have ae:=cb aD;have an:=cb (fun(x:iC) (hx:fw d s.held=some x)=>(rZ [] hx).2);generalize fw d s.held=RR at*;have hl:=s.held.length;clear hl F hD H;have aP:¬w.heap.size+1=D:=by omega
 have af:¬w.heap.size=D:=by omega
 generalize aq:s.held.length=nl at*;have ar:=cb aq;clear aq;go_wp2;go_cut [4]from 5 (fun s4 W=>∃S sv,s4= .pointer (some ⟨S,0,none⟩)/\QL w W S sv RR)
 case first=>
  go_region_held3 (fun w'=>w'.cell? ⟨D,0,none⟩=some (.iface t (.agg #[]))) (go_keep)
   (first
    |(go_at_call 125;refine(ac.out _ ?hx).mono ?_;(case hx=>exact BW);rintro e w' ⟨⟨a,c,rfl,ad,B⟩,q,rfl⟩;have au:=cb (cd ad B);clear ad B)
    |(with_reducible (show Calls prog f _ _ _);refine(ae.out _ a c ?hx au.out.2).mono ?_;(case hx=>exact au.out.1.later BW);rintro e h ⟨av,ag⟩;obtain⟨sv,aH,ah⟩:=Fj av;subst aH;have aQ:=(ag.cell (p:=⟨D,0,none⟩) (by simp;omega));obtain⟨aw,ax⟩:=Jv ag;have ai:=cb ag;have aj:=cb ah;clear ag ah av))
  .go_wp2_with fail
   go_meet
   case rel=>
    have q:=ai.out;have k1:=aj.out;clear ac ae an ai aj aw ax hm hn;refine⟨h.heap.size,sv,rfl,Fk ?_ ?_ q k1⟩
    .exact BW
    .exact du w (.cells tK 36 (0,0))
  all_goals
   go_wp2_with fail
   go_meet
   case rel=>
    have q:=ai.out;have k1:=aj.out;clear ac ae an ai aj aw ax hm hn;refine⟨w.heap.size+1,sv,rfl,Fl ?_ ?_ ?_ q k1⟩
    .exact BW
    .exact(cC (w.alloc (.cells tK 36 (0,0))) _ _ (by simp)).trans (du w _)
    .have:=du (w.alloc (.cells tK 36 (0,0))) (.cells xj 255 (0,0));rw[cF]at this;exact this
 case rest=>
  obtain⟨S,sv,rfl,R⟩:=hcut;have s0:=cn R.hS 0;have s1:=cn R.hS 1;have s2:=cn R.hS 2;have s3:=cn R.hS 3;have s4:=cn R.hS 4;have s5:=cn R.hS 5;have s6:=cn R.hS 6;have s7:=cn R.hS 7;have y0:=cn R.h0 0;have y1:=cn R.h0 1;have y2:=cn R.h0 2;have y3:=cn R.h0 3;have y4:=cn R.h0 4;have y5:=cn R.h0 5;have yf:=dN R.h0;have I:=cA R.hS;have ak:=cA R.h0;have lS:=R.lS;have b:=cb R;clear R ac ae hm hn;simp[SV.arr]at s0 s1 s2 s3 s4 s5 s6 s7;simp[tK]at y0 y1 y2 y3 y4 y5;cases RR with
  |none=>
   have ah:sv=⟨0,none,0,0,⟨#[]⟩,⟨#[]⟩,false,0,0,false⟩:=b.out.is;subst ah;go_wp2;refine cE (v:= .tuple #[.agg tK,.bool false]) (by simp[results,results121,go_sem,tK,y0,y1,y2,y3,y4,y5]) rfl ?_;have hb:=b.out.jx;have ay:=(((((hb.setCell (p:=⟨w.heap.size,0,none⟩) (PC _) (.int .i64 0)).setCell (p:=⟨w.heap.size,1,none⟩) (PC _) (.slice none 0 0)).setCell (p:=⟨w.heap.size,2,none⟩) (PC _) (.string ⟨#[]⟩)).setCell (p:=⟨w.heap.size,3,none⟩) (PC _) (.string ⟨#[]⟩)).setCell (p:=⟨w.heap.size,4,none⟩) (PC _) (.bool false)).setCell (p:=⟨w.heap.size,5,none⟩) (PC _) (.int .i64 0);exact⟨rfl,ap.out _ ay,ay⟩
  |some x=>
   obtain⟨aR,aI⟩:=an.out x rfl;obtain⟨k,p,y,z,aS,wd,ft,id,aK,sk⟩:=sv;obtain⟨i1,i2,i3,i4,i5,i6,i7,i8⟩:=b.out.is;simp only at i1 i2 i3 i4 i5 i6 i7 i8 s0 s1 s2 s3 s4 s5 s6 s7;subst i1;subst i3;subst i4;subst i5;subst i6;subst i7;subst i8;have al:=cb i2;clear i2;have aT:((x.used:Int)==0)=false:=by rw[dW];omega
   have az:=cb (fun W (hW:Below w.heap.size w W)=>Cb D t x.used hb s W (ap.out W hW) (by rw[ar.out];exact aI));have hE:fm s x=(if x.c.fatal then⟨[],false,true⟩else if x.skip then⟨(iH (s.held.drop x.used)).1,(iH (s.held.drop x.used)).2,s.closed⟩else⟨s.held.drop x.used,s.pass,s.closed⟩):=rfl;have HE:=cb hE;clear hE;have aA:(s.held.drop x.used).length<=140737488355328:=by rw[fR,ar.out];omega
   have J:=cb (fun W K (R:PD W D K t ⟨s.held.drop x.used,s.pass,s.closed⟩)=>vz D t K ⟨s.held.drop x.used,s.pass,s.closed⟩ W R aA);have C:=cb (fun W K s' (R:PD W D K t s')=>Gv D t K s' W R);have L:S≠D:=by omega
   have aB:∀T2:Nat,w.heap.size<=T2->some T2≠hb:=fun T2 h2 e=>by have:=(HR.out.lt).2 T2 e.symm;omega
   have m:=cb aB;clear aA aB;go_wp2;go_region_held3 (fun w'=>w'.cell? ⟨S,6,none⟩=some (.int .i64 (x.used:Int))) (go_keep)
    (first|(go_at_call 126;refine(az.out _ ?hx).mono ?_;(case hx=>exact b.out.jx.drew);rintro r w6 ⟨rfl,T6⟩;have aJ:=(cS (w:=wc.drew) (a:=⟨S,6,none⟩) (T6.turn.block S I L (m.out S (by omega))));have n:=cb (T6.after (iV.pU ((ie.refl D wc).drew)));clear T6))
   have i:=(n.out.turn.block S I L (m.out S (by omega))).trans b.out.hS;have t0:=(n.out.turn.block w.heap.size ak af (m.out _ (PC _))).trans b.out.h0;clear s0 s1 s2 s3 s4 s5 s6 s7 y0 y1 y2 y3 y4 y5 yf aJ az;have x4:=cn i 4;have x7:=cn i 7;have l:=cb (cd i t0);simp[SV.arr]at x4 x7;clear i t0;cases am:x.skip with
   |false=>
    rw[am]at x7;cases j:x.c.fatal with
    |false=>
     rw[j]at x4;have hA:fm s x=⟨s.held.drop x.used,s.pass,s.closed⟩:=by rw[HE.out,j,am];rfl
     have i:=l.out.1;have t0:=l.out.2;have a0:=cn i 0;have a1:=cn i 1;have a2:=cn i 2;have a3:=cn i 3;have M:=cn i 4;have a5:=cn i 5;have N:=cn t0 0;have O:=cn t0 1;have P:=cn t0 2;have Q:=cn t0 3;have T:=cn t0 4;have U:=cn t0 5;have bf:=dN t0;simp[SV.arr]at a0 a1 a2 a3 M a5;simp[tK]at N O P Q T U;rw[j]at M;clear i t0 J C;go_wp2;refine cE (v:= .tuple #[.agg #[.int .i64 x.c.kind,.slice p y z,.string x.c.val,.string x.c.word,.bool false,.int .i64 x.c.id],.bool true]) (by simp[results,results121,go_sem,N,O,P,Q,T,U]) rfl ?_;have V:=vC (u:= .slice p y z) b.out.jx HR.out n.out al.out b.out.h0 (.int .i64 x.c.kind) (.slice p y z) (.string x.c.val) (.string x.c.word) (.bool false) (.int .i64 x.c.id);refine⟨p,y,z,by rw[j],V.2,?_⟩;rw[hA];exact V.1
    |true=>
     rw[j]at x4;have hA:fm s x=⟨[],false,true⟩:=by rw[HE.out,j];rfl
     go_wp2_with fail
     go_at_call 154;obtain⟨X,R6,Y⟩:=n.out.ex;refine(C.out _ X _ R6).mono ?_;rintro r w8 ⟨rfl,Z⟩;have A:=cb (show mP wc w8 D hb t _ from⟨⟨Z.ex.choose,Z.ex.choose_spec.1,Y.trans Z.ex.choose_spec.2 n.out.turn.size⟩,n.out.turn.trans Z.turn Y⟩);have aa:=(A.out.turn.block S I L (m.out S (by omega))).trans b.out.hS;have ab:=(A.out.turn.block w.heap.size ak af (m.out _ (PC _))).trans b.out.h0;clear x4 Z R6 Y l;have l:=cb (cd aa ab);clear aa ab;have i:=l.out.1;have t0:=l.out.2;have a0:=cn i 0;have a1:=cn i 1;have a2:=cn i 2;have a3:=cn i 3;have M:=cn i 4;have a5:=cn i 5
     have N:=cn t0 0;have O:=cn t0 1;have P:=cn t0 2;have Q:=cn t0 3;have T:=cn t0 4;have U:=cn t0 5;have bf:=dN t0;simp[SV.arr]at a0 a1 a2 a3 M a5;simp[tK]at N O P Q T U;rw[j]at M;clear i t0 J C;go_wp2;refine cE (v:= .tuple #[.agg #[.int .i64 x.c.kind,.slice p y z,.string x.c.val,.string x.c.word,.bool true,.int .i64 x.c.id],.bool true]) (by simp[results,results121,go_sem,N,O,P,Q,T,U]) rfl ?_;have V:=vC (u:= .slice p y z) b.out.jx HR.out A.out al.out b.out.h0 (.int .i64 x.c.kind) (.slice p y z) (.string x.c.val) (.string x.c.word) (.bool true) (.int .i64 x.c.id);refine⟨p,y,z,by rw[j],V.2,?_⟩;rw[hA];exact V.1
   |true=>
    rw[am]at x7;go_wp2_with fail
    go_at_call 88;obtain⟨X,R6,Y⟩:=n.out.ex;refine(J.out _ X R6).mono ?_;rintro r w7 ⟨rfl,T7⟩;have E:=cb (show mP wc w7 D hb t _ from⟨⟨T7.ex.choose,T7.ex.choose_spec.1,Y.trans T7.ex.choose_spec.2 n.out.turn.size⟩,n.out.turn.trans T7.turn Y⟩);have ao:=(E.out.turn.block S I L (m.out S (by omega))).trans b.out.hS;have aC:=(E.out.turn.block w.heap.size ak af (m.out _ (PC _))).trans b.out.h0;clear x4 x7 T7 R6 Y l;have x4:=cn ao 4;have l:=cb (cd ao aC);simp[SV.arr]at x4;clear ao aC;cases j:x.c.fatal with
    |false=>
     rw[j]at x4;have hA:fm s x=⟨(iH (s.held.drop x.used)).1,(iH (s.held.drop x.used)).2,s.closed⟩:=by rw[HE.out,j,am];rfl
     have i:=l.out.1;have t0:=l.out.2;have a0:=cn i 0;have a1:=cn i 1;have a2:=cn i 2;have a3:=cn i 3;have M:=cn i 4;have a5:=cn i 5;have N:=cn t0 0;have O:=cn t0 1;have P:=cn t0 2;have Q:=cn t0 3;have T:=cn t0 4;have U:=cn t0 5;have bf:=dN t0;simp[SV.arr]at a0 a1 a2 a3 M a5;simp[tK]at N O P Q T U;rw[j]at M;clear i t0 J C;go_wp2;refine cE (v:= .tuple #[.agg #[.int .i64 x.c.kind,.slice p y z,.string x.c.val,.string x.c.word,.bool false,.int .i64 x.c.id],.bool true]) (by simp[results,results121,go_sem,N,O,P,Q,T,U]) rfl ?_;have V:=vC (u:= .slice p y z) b.out.jx HR.out E.out al.out b.out.h0 (.int .i64 x.c.kind) (.slice p y z) (.string x.c.val) (.string x.c.word) (.bool false) (.int .i64 x.c.id);refine⟨p,y,z,by rw[j],V.2,?_⟩;rw[hA];exact V.1
    |true=>
     rw[j]at x4;have hA:fm s x=⟨[],false,true⟩:=by rw[HE.out,j];rfl
     go_wp2_with fail
     go_at_call 154;obtain⟨X,R6,Y⟩:=E.out.ex;refine(C.out _ X _ R6).mono ?_;rintro r w8 ⟨rfl,Z⟩;have A:=cb (show mP wc w8 D hb t _ from⟨⟨Z.ex.choose,Z.ex.choose_spec.1,Y.trans Z.ex.choose_spec.2 E.out.turn.size⟩,E.out.turn.trans Z.turn Y⟩);have aa:=(A.out.turn.block S I L (m.out S (by omega))).trans b.out.hS;have ab:=(A.out.turn.block w.heap.size ak af (m.out _ (PC _))).trans b.out.h0;clear x4 Z R6 Y l;have l:=cb (cd aa ab);clear aa ab;have i:=l.out.1;have t0:=l.out.2;have a0:=cn i 0;have a1:=cn i 1;have a2:=cn i 2;have a3:=cn i 3;have M:=cn i 4;have a5:=cn i 5
     have N:=cn t0 0;have O:=cn t0 1;have P:=cn t0 2;have Q:=cn t0 3;have T:=cn t0 4;have U:=cn t0 5;have bf:=dN t0;simp[SV.arr]at a0 a1 a2 a3 M a5;simp[tK]at N O P Q T U;rw[j]at M;clear i t0 J C;go_wp2;refine cE (v:= .tuple #[.agg #[.int .i64 x.c.kind,.slice p y z,.string x.c.val,.string x.c.word,.bool true,.int .i64 x.c.id],.bool true]) (by simp[results,results121,go_sem,N,O,P,Q,T,U]) rfl ?_;have V:=vC (u:= .slice p y z) b.out.jx HR.out A.out al.out b.out.h0 (.int .i64 x.c.kind) (.slice p y z) (.string x.c.val) (.string x.c.word) (.bool true) (.int .i64 x.c.id);refine⟨p,y,z,by rw[j],V.2,?_⟩;rw[hA];exact V.1
section
variable (D:Nat)(hb:Option Nat)(s:St)(w:World)
theorem Mq (R:PD w D hb 160 s)(b:s.held.length<=140737488355328):Calls prog 121 #[.pointer (some ⟨D,0,none⟩)] w fun e w'=>rJ w w' D hb 160 s (fw 1 s.held) e:=by
 refine BJ 160 211 1 (fun w=>by kernel_rfl) (fun w=>by kernel_rfl) (fun g w=>by simp) D hb s (fun W a c d f=>?_) w R b;have h:fw 1 s.held=vO s.held:=by simp[fw]
 exact EP a _ c s.held W d f
theorem Mr (R:PD w D hb 161 s)(d:s.held.length<=140737488355328):Calls prog 121 #[.pointer (some ⟨D,0,none⟩)] w fun e w'=>rJ w w' D hb 161 s (fw 2 s.held) e:=by
 refine BJ 161 244 2 (fun w=>by kernel_rfl) (fun w=>by kernel_rfl) (fun k w=>by simp_all) D hb s (fun W a c h l=>?_) w R d;have m:fw 2 s.held=uN s.held:=by simp[fw]
 exact by
  cases nw s.held.length with
  |inl i=>
   have b:=dw.1 i;rw[b];exact uX 0 0 0 c a W (by omega)
  |inr j=>
   obtain⟨g,o,rfl,f⟩:=h.Sa j;exact Ex g o _ c s.held W f
theorem Ms (R:PD w D hb 162 s)(b:s.held.length<=140737488355328):Calls prog 121 #[.pointer (some ⟨D,0,none⟩)] w fun e w'=>rJ w w' D hb 162 s (fw 3 s.held) e:=by
 refine BJ 162 251 3 (fun w=>by kernel_rfl) (fun w=>by kernel_rfl) (fun f w=>by simp) D hb s (fun W a c d g=>?_) w R b;have h:fw 3 s.held=zq s.held:=by simp[fw]
 exact ER a _ c s.held W d
end
end Go.Proofs.YtlonjggfnleolaaGreatDoor
