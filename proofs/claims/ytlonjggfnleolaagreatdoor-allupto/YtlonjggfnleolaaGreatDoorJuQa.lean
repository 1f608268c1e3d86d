import Derived.Test.YtlonjggfnleolaaGreatDoorRefH
import Derived.Test.YtlonjggfnleolaaGreatDoorRefM
import Derived.Test.YtlonjggfnleolaaGreatDoorRdrD
import Derived.Test.YtlonjggfnleolaaGreatDoorPlTell
import Derived.Lib.FrozenHead
import Derived.Lib.Builder
import Derived.Shelf.Strings.BuilderX
import Derived.Laws.MakeOwn
import Derived.RangeFuncNested
import Derived.RangeFuncBound
import Derived.RangeFuncCalls
import Derived.RangeFuncLeaves
import Derived.Shelf.Abstract
import Derived.Shelf.RegionOpen
import Derived.OwnWalkIn
import Derived.TacticsInMore
import Derived.LoopNIn
import Derived.LoopIn
import Derived.Maps.OwnIn
import Derived.ArgAppend
import Derived.MapKept
import Derived.Conc.LoneCalls
import Derived.Conc.LoneSelect
import Derived.Shelf.SlicesE.Delete
set_option linter.unusedVariables false
set_option maxHeartbeats 8000000
set_option maxRecDepth 100000
namespace Go.Proofs.YtlonjggfnleolaaGreatDoor
open Go.RowKit Go.Shelf Go.Proofs.Tryz
variable {M M':List Nat}{w w' a b:World}
structure eH (M:List Nat)(w w':World):Prop where
 os:w'.os=w.os
 tape:w'.tape=w.tape
 output:w'.output=w.output
 size:w.heap.size<=w'.heap.size
 block:∀k,k<w.heap.size->k∉M->w'.heap[k]?=w.heap[k]?
theorem eH.refl (M:List Nat)(w:World):eH M w w:=⟨rfl,rfl,rfl,PC _,fun _ _ _=>rfl⟩
theorem eH.dP (h:Below w.heap.size w w'):eH M w w':=⟨h.os,h.tape,h.output,h.size,fun k a _=>h.block k a⟩
theorem eH.drew (h:eH M w w'):eH M w w'.drew:=⟨h.os,h.tape,h.output,h.size,h.block⟩
theorem eH.wK (h:eH M w.drew w'):eH M w w':=⟨h.os,h.tape,h.output,h.size,h.block⟩
def dB (w:World)(M M':List Nat):Prop:=∀b∈M',b∈M\/w.heap.size<=b
theorem dB.refl (w:World)(M:List Nat):dB w M M:=fun b h=> .inl h
theorem dB.trans {a:List Nat}(h:dB w M M')(k:dB w' M' a)(c:w.heap.size<=w'.heap.size):dB w M a:=fun b d=>by
 rcases k b d with h1|h1
 .exact h b h1
 .exact .inr (cP c h1)
theorem eH.trans {c:World}(h:eH M a b)(k:eH M' b c)(f:dB a M M'):eH M a c:=
 ⟨k.os.trans h.os,k.tape.trans h.tape,k.output.trans h.output,cP h.size k.size,fun i d e=>(k.block i (cH d h.size) (fun g=>by
  rcases f i g with h1|h1
  .exact e h1
  .omega)).trans (h.block i d e)⟩
theorem eH.more (h:eH M a b)(c:∀x∈M,x∈M'):eH M' a b:=
 ⟨h.os,h.tape,h.output,h.size,fun k d e=>h.block k d (fun f=>e (c k f))⟩
theorem eH.keep (h:eH M a b){k:Nat}{o:Obj}(c:a.heap[k]?=some o)(d:k∉M):b.heap[k]?=some o:=(h.block k (cA c) d).trans c
theorem eH.set (h:eH M a w){p:Addr}(f:p.block∈M\/a.heap.size<=p.block)(v:Value):eH M a (w.setCell p v):=by
 have b:Below 0 w (w.setCell p v):=(ct 0 w).setCell (p:=p) (cG _) _;exact⟨b.os.trans h.os,b.tape.trans h.tape,b.output.trans h.output,cP h.size b.size,fun k c d=>(cz w p v k (fun e=>by grind)).trans (h.block k c d)⟩
theorem eH.grown {c:Option Nat}(h:eH M a w)(d:w.grownBy w' c)(i:∀b,c=some b->b∈M\/a.heap.size<=b):eH M a w':=
 ⟨d.os.trans h.os,d.tape.trans h.tape,d.output.trans h.output,cP h.size d.size,fun k f g=>(d.block k (cH f h.size) (fun e=>by grind)).trans (h.block k f g)⟩
theorem shapeOf {b T n:Nat}{Z:Array Value}{f:Nat×Nat}(h:w.heap[b]?=some (.cells Z T f))(a:Z.size=n):w.shape? b=some (T,n):=by simp[World.shape?,h,a]
theorem FU:(prog.info? 123).map (·.size)=some 2:=by kernel_rfl
theorem xQ (b o:Nat)(w:World)(d:w.cell? ⟨b,o,none⟩=some (.pointer (some ⟨b,o,none⟩))):Calls prog 159 #[.pointer (some ⟨b,o,none⟩)] w fun e w'=>e= .returned (.tuple #[])/\w'=w:=by
 obtain⟨j,a,c⟩:=dX.1 FU;go_wp2;rw[Lib.run_neq_ptr_same w _ underlying121 a];go_wp2;go_end0;exact⟨rfl,rfl⟩
theorem xl (b o T n:Nat)(Z:Array Value)(w:World)(hb:w.heap[b]?=some (.cells Z T (0,0)))(g:Z.size=n)(h:o<n)(a:liesAt prog prog.depth T (n / prog.cellsOf T) o 123 1=true)(i:Z[o]?=some (.pointer none)):Calls prog 159 #[.pointer (some ⟨b,o,none⟩)] w fun e w'=>e= .returned (.tuple #[])/\w'=w.setCell ⟨b,o,none⟩ (.pointer (some ⟨b,o,none⟩)):=by
 obtain⟨j,f,d⟩:=dX.1 FU;have c:=shapeOf hb g;have k:=(cn hb o).trans i;have l:=dN hb o;go_wp2;rw[Lib.run_to_unsafe w ⟨b,o,none⟩ underlying121 underlying269 f (by rw[d];decide) c h];simp only[Result.andThen]
 go_wp2;rw[run_callFunc_extern func169 (by kernel_rfl) (by kernel_rfl) (by kernel_rfl) (e:=Extern.AbiNoEscape.same) (by kernel_rfl)];rw[Lib.run_noEscape];go_wp2;rw[Lib.run_from_unsafe w ⟨b,o,none⟩ underlying269 underlying121 f c a];go_wp2;go_end0;exact⟨rfl,rfl⟩
theorem QF (z:Value)(n:Nat):madeCells #[z] n=Array.replicate n z:=by
 apply Array.ext_getElem?;intro i;unfold madeCells;by_cases h:i<n
 .have a:=Nat.mod_one i;simp[h,a]
 .simp[h]
theorem Od:∃i,prog.info? 4=some i/\i.zero=some (.bool false)/\i.size=1/\i.bytes=1:=by
 have h:(prog.info? 4).map (fun i=>(i.zero,i.size,i.bytes))=some (some (.bool false),1,1):=by kernel_rfl
 obtain⟨i,b,a⟩:=dX.1 h;simp at a;exact⟨i,b,a.1,a.2.1,a.2.2⟩
theorem Nx:∃i,prog.info? 9=some i/\i.zero=some (.string ⟨#[]⟩)/\i.size=1/\i.bytes=16:=by
 have h:(prog.info? 9).map (fun i=>(i.zero,i.size,i.bytes))=some (some (.string ⟨#[]⟩),1,16):=by kernel_rfl
 obtain⟨i,b,a⟩:=dX.1 h;simp at a;exact⟨i,b,a.1,a.2.1,a.2.2⟩
theorem Pa (n:Nat)(h:n<=1000000)(w:World):(Instr.makeSlice 89 (.int .i64 n) (.int .i64 n)).run prog w= .ok (.slice (some ⟨w.heap.size,0,none⟩) n n) (w.alloc (.cells (Array.replicate n (.bool false)) 4)):=by
 obtain⟨i,a,b,c,d⟩:=Od;have:=run_makeSlice (P:=prog) w 89 4 i _ ju a b .i64 .i64 n n (by omega) (by omega) (by grind) (by grind) (by omega);rw[this,c];simp[Value.cells,QF]
theorem Sw (n:Nat)(h:n<=1000000)(w:World):(Instr.makeSlice 34 (.int .i64 n) (.int .i64 n)).run prog w= .ok (.slice (some ⟨w.heap.size,0,none⟩) n n) (w.alloc (.cells (Array.replicate n (.string ⟨#[]⟩)) 9)):=by
 obtain⟨i,a,b,c,d⟩:=Nx;have:=run_makeSlice (P:=prog) w 34 9 i _ eO a b .i64 .i64 n n (by omega) (by omega) (by grind) (by grind) (by omega);rw[this,c];simp[Value.cells,QF]
theorem Ng (w:World)(A B C D:Obj):((((w.alloc A).alloc B).alloc C).alloc D).heap[w.heap.size+1]?=some B/\((((w.alloc A).alloc B).alloc C).alloc D).heap[w.heap.size+1+1]?=some C/\((((w.alloc A).alloc B).alloc C).alloc D).heap[w.heap.size+1+1+1]?=some D/\Below w.heap.size w ((((w.alloc A).alloc B).alloc C).alloc D):=by
 have a:(w.alloc A).heap.size=w.heap.size+1:=cF _ _;have e:((w.alloc A).alloc B).heap.size=w.heap.size+1+1:=by simp
 have f:(((w.alloc A).alloc B).alloc C).heap.size=w.heap.size+1+1+1:=by simp_all
 have b:=du (w.alloc A) B;have c:=du ((w.alloc A).alloc B) C;have d:=du (((w.alloc A).alloc B).alloc C) D;rw[a]at b;rw[e]at c;rw[f]at d;refine⟨?_,?_,d,((((ct _ w).alloc (PC _) _).alloc (by omega) _).alloc (by omega) _).alloc (by omega) _⟩
 .rw[cC _ _ _ (by omega),cC _ _ _ (by omega),b]
 .rw[cC _ _ _ (by omega),c]
def sx (k:Int)(b:Value)(a c:ByteArray)(d:Bool)(id:Int)(n:Int)(e f:Bool)(g h:Value):Obj:= .cells #[.int .i64 k,b,.string a,.string c,.bool d,.int .i64 id,.int .i64 n,.bool e,.bool f,g,h] 216 (0,0)
theorem xq (k:Int)(c:Option Addr)(a d:Nat)(b f:ByteArray)(g:Bool)(id:Int)(w:World)(o:a<=1000000):Calls prog 131 #[.agg #[.int .i64 k,.slice c a d,.string b,.string f,.bool g,.int .i64 id]] w fun e w'=>∃(q h i:Nat),e= .returned (.pointer (some ⟨q,0,none⟩))/\w'.heap[q]?=some (sx k (.slice c a d) b f g id a false false (.slice (some ⟨h,0,none⟩) a a) (.slice (some ⟨i,0,none⟩) a a))/\w'.heap[h]?=some (.cells (Array.replicate a (.bool false)) 4 (0,0))/\w'.heap[i]?=some (.cells (Array.replicate a (.string ⟨#[]⟩)) 9 (0,0))/\w.heap.size<=q/\w.heap.size<=h/\w.heap.size<=i/\Below w.heap.size w w':=by
 have r:=Pa a o;have s:=Sw a o;have p:=cb (Ng w);go_wp2;go_region
 all_goals go_wp2
 .go_ret;obtain⟨j,l,m,n⟩:=p.out (.cells #[.int .i64 k,.slice c a d,.string b,.string f,.bool g,.int .i64 id] 36) (.cells (Array.replicate a (.bool false)) 4) (.cells (Array.replicate a (.string ⟨#[]⟩)) 9) (sx k (.slice c a d) b f g id a false false (.slice (some ⟨w.heap.size+1,0,none⟩) a a) (.slice (some ⟨w.heap.size+1+1,0,none⟩) a a));exact⟨w.heap.size+1+1+1,w.heap.size+1,w.heap.size+1+1,rfl,m,j,l,by omega,by omega,by omega,n.drew⟩
 .go_ret;obtain⟨j,l,m,n⟩:=p.out (.cells #[.int .i64 k,.slice c a d,.string b,.string f,.bool g,.int .i64 id] 36) (.cells (Array.replicate a (.string ⟨#[]⟩)) 9) (.cells (Array.replicate a (.bool false)) 4) (sx k (.slice c a d) b f g id a false false (.slice (some ⟨w.heap.size+1+1,0,none⟩) a a) (.slice (some ⟨w.heap.size+1,0,none⟩) a a));exact⟨w.heap.size+1+1+1,w.heap.size+1+1,w.heap.size+1,rfl,m,l,j,by omega,by omega,by omega,n.drew⟩
theorem Dm (s:ByteArray)(e n:Nat)(y z:ByteArray)(w:World)(hs:s.size<=1000000000000)(he:Go.Lib.indexByte s.data.toList 10=(e:Int))(ah:e<s.size)(M:eP (s.data.toList.take e)=[⟨#[115,101,116]⟩,y,z])(hk:iX y=true)(hc:om z=some n)(hn:n<=999)(j:¬40<n->e+1+n<s.size->s.size=e+1+n+1):Calls prog 171 #[.string s] w fun r w'=>mi w w' (sE s.data.toList (e+1) y n) r/\Below w.heap.size w w':=by
 have I:=kQ s;have V:=cb (fun W=>uG s W (by unfold maxLen;omega));rw[he]at V;have t:(s.extract 0 e).data.toList=s.data.toList.take e:=by rw[jo];simp[PJ]
 have ad:(s.extract 0 e).size<=1000000000000:=by rw[gT];omega
 have u:=cb (fun W=>vF (s.extract 0 e) W ad);rw[t,M]at u;have k:∀x∈[⟨#[115,101,116]⟩,y,z],x.size<=maxLen:=by
  intro x N;rw[<-M]at N;exact cP (zl _ x N) (by rw[fh];unfold maxLen;omega)
 have hy:=k y (by simp);have hz:=k z (by simp);have v:=cb (fun W=>mB y W hy);have l:=cb (fun W=>vD z W hz);rw[hk]at v;rw[hc]at l;unfold Nk at l;dsimp only at l;have J:bytesOf s.data.toList (e+1) n=s.extract (e+1) (e+1+n):=by rw[jo,kM];rfl
 have i1:(0:Int)<=(e:Int):=by omega
 have i2:(e:Int)<=(s.size:Int):=by omega
 have i3:¬(e:Int)<0:=by omega
 have i4:(0:Int)<=(n:Int):=by omega
 clear t M he k hk hc;unfold sE;rw[I];by_cases O:40<n
 .rw[cN O];have X:(40:Int)<(n:Int):=by omega
  clear j J I;go_enter mF,lD;go_wp2_with (first
   |(go_at_call 181;refine(V.out _).mono ?_;rintro r w1 ⟨rfl,rfl⟩)
   |(go_at_call 183;refine(u.out _).mono ?_;rintro r P ⟨g,c,rfl,a,b⟩;obtain⟨f,L⟩:=ll rfl (by simp) a;have d:P.heap[w.heap.size]?=some ly:=(b.block _ (by simp)).trans (du w _);obtain⟨_,K,h⟩:=zY (by simpa using b);have q:=cb (cd f (cd d h));have Q:=f.lt;have c0:=fY f (i:=0) rfl;have c1:=fY f (i:=1) rfl;have c2:=fY f (i:=2) rfl;obtain⟨⟨A,B,C,D,E,F⟩,R⟩:=gf d;clear a b f d h L;dsimp only[List.length_cons,List.length_nil,Nat.reduceAdd])
   |(go_at_call 137;refine(v.out _).mono ?_;rintro r w' ⟨rfl,o⟩;subst o)
   |(go_at_call 184;refine(l.out _).mono ?_;rintro r w' ⟨rfl,o⟩;subst o)
   |fail)
  go_at_call 182;refine(gH _ _ _).mono ?_;rintro r w4 ⟨rfl,p⟩;have H:=(p.block _ (cA q.out.2.1)).trans q.out.2.1;have S:=cb (q.out.2.2.trans (p.mono q.out.2.2.size));clear p A B C D E F R;obtain⟨⟨A,B,C,D,E,F⟩,R⟩:=gf H;clear H;unfold fF;go_wp2;refine cE (v:= .tuple #[fF Jx false,.int .i64 1]) (by simp[results,results171,go_sem,fF,Jx,A,B,C,D,E,F]) rfl ⟨⟨.slice none 0 0,rfl,.inl ⟨rfl,rfl⟩⟩,tA S.out (PC _) _ _ _ _ _ _⟩
 .rw[cD O];have X:¬(40:Int)<(n:Int):=by omega
  by_cases T:s.size<=e+1+n
  .rw[cN T];have Y:(s.size:Int)-(e:Int)-1<=(n:Int):=by omega
   clear j J I;go_enter mF,lD;go_wp2_with (first
    |(go_at_call 181;refine(V.out _).mono ?_;rintro r w1 ⟨rfl,rfl⟩)
    |(go_at_call 183;refine(u.out _).mono ?_;rintro r P ⟨g,c,rfl,a,b⟩;obtain⟨f,L⟩:=ll rfl (by simp) a;have d:P.heap[w.heap.size]?=some ly:=(b.block _ (by simp)).trans (du w _);obtain⟨_,K,h⟩:=zY (by simpa using b);have q:=cb (cd f (cd d h));have Q:=f.lt;have c0:=fY f (i:=0) rfl;have c1:=fY f (i:=1) rfl;have c2:=fY f (i:=2) rfl;obtain⟨⟨A,B,C,D,E,F⟩,R⟩:=gf d;clear a b f d h L;dsimp only[List.length_cons,List.length_nil,Nat.reduceAdd])
    |(go_at_call 137;refine(v.out _).mono ?_;rintro r w' ⟨rfl,o⟩;subst o)
    |(go_at_call 184;refine(l.out _).mono ?_;rintro r w' ⟨rfl,o⟩;subst o)
    |fail)
   refine cE (v:= .tuple #[jM,.int .i64 0]) (by simp[results,results171,go_sem,jM,A,B,C,D,E,F]) rfl ⟨rfl,tA q.out.2.2 (PC _) _ _ _ _ _ _⟩
  .rw[cD T];have Y:¬(s.size:Int)-(e:Int)-1<=(n:Int):=by omega
   obtain⟨m,hm⟩:∃m,m=e+1+n:=⟨_,rfl⟩
   have Z:=j O (by omega);have ae:m<s.size:=by omega
   have z1:(s.size:Int)-1=(m:Int):=by omega
   have aa:s.data.toList.getD (e+1+n) 0=s[m]:=by rw[<-hm,nb ae]
   rw[aa,J,<-hm];clear j J I aa;by_cases U:s[m]=10
   .rw[cD (by simpa using U)];have z2:(e:Int)+1+(n:Int)=(m:Int):=by omega
    have z3:(e:Int)+1<=(m:Int):=by omega
    have z4:(m:Int)<=(s.size:Int):=by omega
    have z7:(0:Int)<=(e:Int)+1:=by omega
    have z8:IntKind.i64.wrap ((e:Int)+1)=(e:Int)+1:=eM _ (by omega) (by omega);have z9:IntKind.i64.wrap ((e:Int)+1+(n:Int))=(m:Int):=by rw[z2];exact eM _ (by omega) (by omega)
    have ai:IntKind.i64.wrap ((m:Int))=(m:Int):=eM _ (by omega) (by omega);clear Z hm T;go_enter mF,lD;go_wp2_with (first
     |(go_at_call 181;refine(V.out _).mono ?_;rintro r w1 ⟨rfl,rfl⟩)
     |(go_at_call 183;refine(u.out _).mono ?_;rintro r P ⟨g,c,rfl,a,b⟩;obtain⟨f,L⟩:=ll rfl (by simp) a;have d:P.heap[w.heap.size]?=some ly:=(b.block _ (by simp)).trans (du w _);obtain⟨_,K,h⟩:=zY (by simpa using b);have q:=cb (cd f (cd d h));have Q:=f.lt;have aj:w.heap.size<g:=(by simp at L;omega);have c0:=fY f (i:=0) rfl;have c1:=fY f (i:=1) rfl;have c2:=fY f (i:=2) rfl;obtain⟨⟨A,B,C,D,E,F⟩,R⟩:=gf d;clear a b f d h L;dsimp only[List.length_cons,List.length_nil,Nat.reduceAdd])
     |(go_at_call 137;refine(v.out _).mono ?_;rintro r w' ⟨rfl,o⟩;subst o)
     |(go_at_call 184;refine(l.out _).mono ?_;rintro r w' ⟨rfl,o⟩;subst o)
     |fail)
    have ag:¬w.heap.size=g:=by omega
    go_region_held3 (fun W=>W.cell? ⟨g,1,none⟩=some (.string y)) (go_keep) (fail)
    go_wp2_with fail
    have ab:=q.out.2.2.size;refine cE (v:= .tuple #[iW ⟨2,[y],s.extract (e+1) m,eY,false,0⟩ (.slice (some ⟨w'.heap.size,0,none⟩) 1 1),.int .i64 1]) (by simp[results,results171,go_sem,iW,eY,A,B,C,D,E,F,K]) rfl ⟨⟨_,rfl,.inr ⟨w'.heap.size,0,1,#[.string y],rfl,ab,?_,?_,PC _⟩⟩,?_⟩
    .exact Iv
    .intro i x N;match i,N with
     |0,N=>simp at N;subst N;rfl
    .exact((tA q.out.2.2 (PC _) _ _ _ _ _ _).alloc (by simp;omega) _).drew
   .rw[cN U];have ac:((s[m].toNat:Int)==10)=false:=vK U;have af:((s[m].toNat:Int) != 10)=true:=by simp only[bne,ac,gK]
    clear Z hm;go_enter mF,lD;go_wp2_with (first
     |(go_at_call 181;refine(V.out _).mono ?_;rintro r w1 ⟨rfl,rfl⟩)
     |(go_at_call 183;refine(u.out _).mono ?_;rintro r P ⟨g,c,rfl,a,b⟩;obtain⟨f,L⟩:=ll rfl (by simp) a;have d:P.heap[w.heap.size]?=some ly:=(b.block _ (by simp)).trans (du w _);obtain⟨_,K,h⟩:=zY (by simpa using b);have q:=cb (cd f (cd d h));have Q:=f.lt;have c0:=fY f (i:=0) rfl;have c1:=fY f (i:=1) rfl;have c2:=fY f (i:=2) rfl;obtain⟨⟨A,B,C,D,E,F⟩,R⟩:=gf d;clear a b f d h L;dsimp only[List.length_cons,List.length_nil,Nat.reduceAdd])
     |(go_at_call 137;refine(v.out _).mono ?_;rintro r w' ⟨rfl,o⟩;subst o)
     |(go_at_call 184;refine(l.out _).mono ?_;rintro r w' ⟨rfl,o⟩;subst o)
     |fail)
    go_at_call 182;refine(gH _ _ _).mono ?_;rintro r w4 ⟨rfl,p⟩;have H:=(p.block _ (cA q.out.2.1)).trans q.out.2.1;have S:=cb (q.out.2.2.trans (p.mono q.out.2.2.size));clear p A B C D E F R;obtain⟨⟨A,B,C,D,E,F⟩,R⟩:=gf H;clear H;unfold fF;go_wp2;refine cE (v:= .tuple #[fF iG false,.int .i64 2]) (by simp[results,results171,go_sem,fF,iG,A,B,C,D,E,F]) rfl ⟨⟨.slice none 0 0,rfl,.inl ⟨rfl,rfl⟩⟩,tA S.out (PC _) _ _ _ _ _ _⟩
theorem Ei {s:ByteArray}{n:Nat}(h:om s=some n):n<=999:=by
 unfold om at h;split at h
 .cases h
 .split at h
  .rename_i a;cases h;have c:=tL s.data.toList a;have b:s.data.toList.length<=3:=by simp_all
   have d:=mg (n:=10) (by decide) b;omega
  .cases h
theorem Dl (s:ByteArray)(g:List UInt8)(b:UInt8)(w:World)(k:s.size<=1000000000000)(hb:s.data.toList=g++[b])(t:vO g=none):Calls prog 171 #[.string s] w fun r w'=>mi w w' (vO s.data.toList) r/\Below w.heap.size w w':=by
 obtain⟨f1,f2⟩:=Ke hb t;have l:=kQ s;by_cases m:0<=Go.Lib.indexByte s.data.toList 10
 .obtain⟨u,v,o⟩:=f2 m;obtain⟨e,i⟩:∃e:Nat,Go.Lib.indexByte s.data.toList 10=(e:Int):=⟨(Go.Lib.indexByte s.data.toList 10).toNat,by omega⟩
  rw[i]at u v o;have p:((e:Int)).toNat=e:=by omega
  rw[p]at u v o;rw[o];unfold ph;cases c:iZ (eP (s.data.toList.take e))with
  |some n=>
   have a:=c;unfold iZ at a;split at a
   .rename_i d;obtain⟨C,A,B⟩:=d;obtain⟨x,y,z,f⟩:∃x y z,eP (s.data.toList.take e)=[x,y,z]:=by
     match H:eP (s.data.toList.take e),C with
     | [x,y,z],_=>exact⟨x,y,z,rfl⟩
    rw[f]at A B a;have D:=(tN _).1 A;subst D;rw[f];exact Dm s e n y z w k i (by omega) f B a (Ei a) (fun q I=>by
     have:=(Mc hb t i.symm c q (by omega)).1;omega)
   .cases a
  |none=>
   have E:=BR s e _ w k i (by omega) rfl c;refine E.mono fun r w' ⟨j,F⟩=>⟨?_,F⟩
   by_cases d:gj ((eP (s.data.toList.take e)).getD 0 eY)=2\/fp (gj ((eP (s.data.toList.take e)).getD 0 eY)) ((eP (s.data.toList.take e)).drop 1) eY=false
   .rw[cN d];rw[cN ((Ay _ _).1 d)]at j;exact j
   .rw[cD d,Hk d];rw[cD (fun h=>d ((Ay _ _).2 h))]at j;exact j
 .rw[f1 m,l];exact BS s w k m
variable {w:World}{Y:Nat}{d:Int}{s:St}
def mO (d:Int)(s:St):Obj:= .cells #[.int .i64 d,.string (PJ s.held),.bool s.pass,.bool s.closed] 195 (0,0)
structure iU (w:World)(Y:Nat)(d:Int)(s:St):Prop where
 at_:w.heap[Y]?=some (mO d s)
 ok:s.ok
theorem th (h:w.heap[Y]?=some (mO d s)):
 w.cell? ⟨Y,0,none⟩=some (.int .i64 d)/\w.cell? ⟨Y,1,none⟩=some (.string (PJ s.held))/\w.cell? ⟨Y,2,none⟩=some (.bool s.pass)/\w.cell? ⟨Y,3,none⟩=some (.bool s.closed)/\(∀j,w.frozen? ⟨Y,j,none⟩=false):=
 ⟨cn h 0,cn h 1,cn h 2,cn h 3,dN h⟩
theorem vt (l:List UInt8)(p:ByteArray):PJ l++p=PJ (l++p.data.toList):=by
 apply ByteArray.ext;simp[PJ]
theorem Mg:PJ []=⟨#[]⟩:=rfl
theorem lr (l:List UInt8):(PJ l).size=l.length:=by show l.toArray.size=_;simp
theorem pP (s:ByteArray)(f:Nat):s.extract f s.size=PJ (s.data.toList.drop f):=by
 rw[jo,dt (by simp)]
theorem yS (h:w.heap[Y]?=some (mO d s))(l:List UInt8):(w.setCell ⟨Y,1,none⟩ (.string (PJ l))).heap[Y]?=some (mO d ⟨l,s.pass,s.closed⟩):=(dh (i:=1) h _).trans rfl
theorem AN (h:w.heap[Y]?=some (mO d s))(p:Bool):(w.setCell ⟨Y,2,none⟩ (.bool p)).heap[Y]?=some (mO d ⟨s.held,p,s.closed⟩):=(dh (i:=2) h _).trans rfl
theorem zP (Y:Nat)(d:Int)(s:St)(a:ByteArray)(w:World)(f:w.heap[Y]?=some (mO d s))(c:s.pass=false)(k:s.held.length+a.size<=1000000000000):Calls prog 148 #[.pointer (some ⟨Y,0,none⟩),.string a] w fun e w'=>e= .returned (.tuple #[])/\w'.heap[Y]?=some (mO d (jL s a.data.toList))/\ie Y w w':=by
 obtain⟨b,u,l⟩:=s;subst c;obtain⟨m,n,o,p,x⟩:=th f;simp only at m n o p k;have g:=cb f;have q:=lr b;cases l with
 |true=>
  have h:Hid (jL ⟨b,false,true⟩ a.data.toList=⟨b,false,true⟩):=(show _=_ from rfl)
  go_wp2;go_loop [4] (fun i=>i= .int .i64 0) (fun _=>0)
  case atStart=>rfl
  case round=>
   go_wp2;go_end0;exact⟨rfl,by exact g.out,ie.refl _ _⟩
 |false=>
  have h:Hid (jL ⟨b,false,false⟩ a.data.toList=⟨b++a.data.toList,false,false⟩):=(show _=_ from rfl)
  have y:a.extract 0 a.size=a:=by rw[pP];simp[PJ]
  have r:=cb (vt b a);have t:Hid (∀v:List UInt8,ie Y w (w.setCell ⟨Y,1,none⟩ (.string (PJ v)))/\(w.setCell ⟨Y,1,none⟩ (.string (PJ v))).heap[Y]?=some (mO d ⟨v,false,false⟩)):=fun v=>⟨(ie.refl Y w).setCell 1 _,yS g.out v⟩
  have j:¬9223372036854775807<(PJ b).size+a.size:=by omega
  go_wp2;go_loop [4] (fun i=>i= .int .i64 0) (fun _=>0)
  case atStart=>rfl
  case round=>
   subst hrel;go_wp2_with fail
   go_big_region
   all_goals go_wp2
   all_goals go_end0
   refine⟨rfl,?_,((ie.refl Y w).setCell 1 _).drew⟩;rw[h.out,r.out];exact(t.out _).2
theorem EY {l:List UInt8}(h:¬0<=Go.Lib.indexByte l 10):iH l=([],true):=by unfold iH;rw[cD h]
theorem Ky {s:ByteArray}{k:Nat}(h:k<s.size)(a:s[k]=10)(b:¬0<=Go.Lib.indexByte (s.data.toList.take k) 10):iH s.data.toList=(s.data.toList.drop (k+1),false):=by
 have e:=MZ h a b;unfold iH;rw[e,cN (by omega)];simp
theorem BT (Y:Nat)(d:Int)(a:ByteArray)(w:World)(A:w.heap[Y]?=some (mO d ⟨[],true,false⟩))(E:a.size<=1000000000000):Calls prog 148 #[.pointer (some ⟨Y,0,none⟩),.string a] w fun e w'=>e= .returned (.tuple #[])/\w'.heap[Y]?=some (mO d (jL ⟨[],true,false⟩ a.data.toList))/\ie Y w w':=by
 have u:Hid (jL ⟨[],true,false⟩ a.data.toList=⟨(iH a.data.toList).1,(iH a.data.toList).2,false⟩):=(show _=_ from rfl)
 have B:=cb A;go_wp2;go_loopw [4] (fun i wr=>∃(k:Nat) (l:Bool),i= .int .i64 (k:Int)/\k<=a.size/\Hid (wr.heap[Y]?=some (mO d ⟨[],l,false⟩)/\ie Y w wr)/\Hid ((l=true/\¬0<=Go.Lib.indexByte (a.data.toList.take k) 10)\/(l=false/\iH a.data.toList=(a.data.toList.drop k,false)))) (fun i _=>a.size-(intOf i).toNat)
 case atStart=>exact⟨0,true,rfl,cG _,⟨B.out,ie.refl _ _⟩,.inl ⟨rfl,by rw[jT,ym];decide⟩⟩
 case round=>
  obtain⟨k,l,rfl,F,b,v⟩:=hrel;obtain⟨H,x,I,J,K⟩:=th b.out.1;have C:=cA b.out.1;cases l with
  |true=>
   have p:¬0<=Go.Lib.indexByte (a.data.toList.take k) 10:=by
    rcases v.out with⟨_,h⟩|⟨h,_⟩
    .exact h
    .cases h
   have g:=cb p;by_cases f:k<a.size
   .by_cases j:a[k]=10
    .have m:=cb (Ky f j g.out);go_wp2;go_roundw;case rel=>exact⟨k+1,false,by go_num,by omega,⟨AN b.out.1 false,b.out.2.setCell 2 _⟩,.inr ⟨rfl,m.out⟩⟩
     case measure=>simp[intOf];omega
    .have n:((a[k].toNat:Int)==10)=false:=vK j;have q:((a[k].toNat:Int) != 10)=true:=by simp only[bne,n,gK]
     have r:=cb (RZ f j g.out);go_wp2;go_roundw;case rel=>exact⟨k+1,true,by go_num,by omega,⟨AN b.out.1 true,b.out.2.setCell 2 _⟩,.inl ⟨rfl,r.out⟩⟩
     case measure=>simp[intOf];omega
   .have s:k=a.size:=by omega
    subst s;have m:Hid (iH a.data.toList=([],true)):=by
     show _=_;have h:=g.out;rw[dt (by simp)]at h;exact EY h
    have o:a.extract a.size a.size=⟨#[]⟩:=by rw[pP,nY (by simp)];rfl
    have y:=cb o;have c:PJ []=⟨#[]⟩:=rfl;rw[c]at x;go_wp2_with fail
    go_big_region
    all_goals go_wp2
    all_goals go_end0
    refine⟨rfl,?_,(b.out.2.setCell 1 _).drew⟩;rw[u.out,m.out];exact yS b.out.1 []
  |false=>
   have t:iH a.data.toList=(a.data.toList.drop k,false):=by
    rcases v.out with⟨h,_⟩|⟨_,h⟩
    .cases h
    .exact h
   have m:=cb t;have c:PJ []=⟨#[]⟩:=rfl;rw[c]at x;have o:=pP a k;have y:=cb o;have L:(k:Int)<=(a.size:Int):=by omega
   have z:¬9223372036854775807<(⟨#[]⟩:ByteArray).size+(a.extract k a.size).size:=by rw[gT];show¬_<0+_;omega
   clear c o;go_wp2_with fail
   go_big_region
   all_goals go_wp2
   all_goals go_end0
   have D:(⟨#[]⟩:ByteArray)++a.extract k a.size=PJ (a.data.toList.drop k):=by
    rw[y.out];have:=vt [] (PJ (a.data.toList.drop k));rw[Mg]at this;rw[this];simp[PJ]
   refine⟨rfl,?_,(b.out.2.setCell 1 _).drew⟩;rw[u.out,m.out,D];exact yS b.out.1 _
theorem tn (Y:Nat)(d:Int)(s:St)(a:ByteArray)(w:World)(R:iU w Y d s)(m:s.held.length+a.size<=1000000000000):Calls prog 148 #[.pointer (some ⟨Y,0,none⟩),.string a] w fun e w'=>e= .returned (.tuple #[])/\iU w' Y d (jL s a.data.toList)/\ie Y w w':=by
 obtain⟨k,f⟩:=R;have c:=KX a.data.toList f;cases b:s.pass with
 |false=>exact(zP Y d s a w k b m).mono fun e w' ⟨g,h,i⟩=>⟨g,⟨h,c⟩,i⟩
 |true=>
  have n:=f.pass b;have o:s.closed=false:=by
   cases j:s.closed with
   |false=>rfl
   |true=>have:=(f.closed j).2;rw[b]at this;cases this
  obtain⟨l,p,q⟩:=s;subst n;subst o;subst b;exact(BT Y d a w k (by omega)).mono fun e w' ⟨g,h,i⟩=>⟨g,⟨h,c⟩,i⟩
theorem mi.Rg {w w':World}{e:Ending}(h:mi w w' none e):e= .returned (.tuple #[jM,.int .i64 0]):=h
theorem tq (N:Nat)(Y:Nat)(d:Int)(s:ByteArray)(c:Option iC)(w:World)(L:w.cell? ⟨Y,0,none⟩=some (.int .i64 d))(H:Y<w.heap.size)(I:(d=1/\N=171)\/(d=2/\N=172)\/(d=3/\N=173))(p:∀W:World,Calls prog N #[.string s] W fun r w'=>mi W w' c r/\Below W.heap.size W w'):Calls prog 165 #[.pointer (some ⟨Y,0,none⟩),.string s] w fun r w'=>mi w w' c r/\Below w.heap.size w w':=by
 have g:=cb p;clear p;have i:Hid (∀(W:World),Below (w.heap.size+1) (w.alloc (.cells #[.int .i64 0,.slice none 0 0,.string ⟨#[]⟩,.string ⟨#[]⟩,.bool false,.int .i64 0] 36)) W->uw W w.heap.size 0 (.slice none 0 0) ⟨#[]⟩/\w.heap.size<W.heap.size/\Below w.heap.size w W/\W.heap[w.heap.size]?=some ly):=fun W h=>⟨(zY h).1,(zY h).2.1,(zY h).2.2,(h.block _ (by omega)).trans (du w _)⟩
 rcases I with⟨rfl,rfl⟩|⟨rfl,rfl⟩|⟨rfl,rfl⟩
 all_goals
  go_enter func165,ntmps165
  go_wp2_with fail
  first|go_at_call 171|go_at_call 172|go_at_call 173
  refine(g.out _).mono ?_
  rintro r q ⟨j,f⟩
  obtain⟨⟨⟨u,v,x,y,z,A⟩,M⟩,O,B,C⟩:=i.out q (by simpa using f)
  have k:=cb (cd B C)
  clear f B C
  cases c with
  |none=>
   have l:=mi.Rg j;subst l;clear j g i;unfold jM;go_wp2;refine cE (v:= .tuple #[jM,.int .i64 0]) (by simp[results,results165,go_sem,jM,u,v,x,y,z,A]) rfl ⟨rfl,tA k.out.1 (PC _) _ _ _ _ _ _⟩
  |some t=>
   obtain⟨P,l,m⟩:=j;subst l;obtain⟨D,E,n⟩:=m.form;subst n;have J:Hid (gF q w.heap.size (.slice D t.c.keys.length E) t.c.keys):=m.other (by simp) (fun _ _ _ _=>rfl);clear m g i;generalize a:(if t.skip=true then(2:Int)else 1)=o at*;have K:=cb a;clear a;unfold iW;go_wp2;refine cE (v:= .tuple #[iW t.c (.slice D t.c.keys.length E),.int .i64 o]) (by simp[results,results165,go_sem,iW,u,v,x,y,z,A]) rfl ⟨⟨_,by rw[K.out],J.out.other (PC _) (fun b Z F _=>jB (fun e=>by rw[e,k.out.2]at F;cases F) _ _ _ _ _ _)⟩,tA k.out.1 (PC _) _ _ _ _ _ _⟩
theorem BU (Y:Nat)(d:Int)(s:ByteArray)(a:List UInt8)(b:UInt8)(w:World)(h:d=1\/d=2\/d=3)(e:w.cell? ⟨Y,0,none⟩=some (.int .i64 d))(c:Y<w.heap.size)(f:s.size<=1000000000000)(hb:s.data.toList=a++[b])(g:fw d a=none):Calls prog 165 #[.pointer (some ⟨Y,0,none⟩),.string s] w fun r w'=>mi w w' (fw d s.data.toList) r/\Below w.heap.size w w':=by
 unfold fw at g⊢;rcases h with rfl|rfl|rfl
 .exact tq 171 Y 1 s _ w e c (.inl ⟨rfl,rfl⟩) (fun W=>Dl s a b W f hb g)
 .exact tq 172 Y 2 s _ w e c (.inr (.inl ⟨rfl,rfl⟩)) (fun W=>BP s a b W f hb g)
 .exact tq 173 Y 3 s _ w e c (.inr (.inr ⟨rfl,rfl⟩)) (fun W=>Dn s W f (by rw[<-kQ,hb];simp))
def PX (w w':World)(Y:Nat)(d:Int)(s:St)(e:Ending):Prop:=
 match fw d s.held with
 |none=>e= .returned (.tuple #[jM,.bool false])/\iU w' Y d s
 |some t=>∃a,e= .returned (.tuple #[iW t.c a,.bool true])/\gF w' w.heap.size a t.c.keys/\iU w' Y d (fm s t)
theorem JM {d:Int}{s:St}{n:Nat}{t:iC}(i:n<s.held.length)(c:fw d (s.held.take n)=none)(h:fw d (s.held.take (n+1))=some t):(⟨[],t.skip,t.c.fatal⟩:St).ok:=by
 have e:s.held.take (n+1)=s.held.take n++[s.held[n]]:=by simp_all
 rw[e]at h;have f:=yO c h;refine⟨fun _=>rfl,fun a=>⟨rfl,?_⟩⟩;rcases f with⟨_,g⟩|⟨b,_⟩|⟨b,_⟩
 .exact g
 .rw[b]at a;cases a
 .rw[b]at a;cases a
section
variable (l:List UInt8)
theorem Kj (k:Nat):(PJ l).extract 0 k=PJ (l.take k):=by rw[jo];simp[PJ]
theorem QG (k:Nat):(PJ l).extract k (PJ l).size=PJ (l.drop k):=by rw[pP];simp[PJ]
theorem tb:(PJ l).data.toList=l:=by simp[PJ]
end
variable {w j:World}{Y:Nat}{d:Int}{i:Value}
def zt (c:iO)(i:Value):Obj:= .cells #[.int .i64 c.kind,i,.string c.val,.string c.word,.bool c.fatal,.int .i64 c.id] 36 (0,0)
theorem AH {a:World}{H:ByteArray}{p:Bool}{c:iO}(g:Bool)(v:a.heap[Y]?=some (.cells #[.int .i64 d,.string H,.bool p,.bool false] 195 (0,0)))(t:a.heap[w.heap.size]?=some ly)(x:Below w.heap.size w a)(y:gF a w.heap.size i c.keys)(m:¬Y=w.heap.size)(l:ie Y ((((a.setCell ⟨Y,1,none⟩ (.string ⟨#[]⟩)).setCell ⟨Y,3,none⟩ (.bool c.fatal)).setCell ⟨Y,2,none⟩ (.bool g)).alloc (.cells #[.int .i64 c.kind,i,.string c.val,.string c.word,.bool c.fatal,.int .i64 c.id] 36)) j):j.heap[a.heap.size]?=some (zt c i)/\j.heap[w.heap.size]?=some ly/\gF j w.heap.size i c.keys/\ie Y w j:=by
 have z:=cA v;have A:=cA t;have f:w.heap.size≠Y:=fun e=>m e.symm
 have n:((((a.setCell ⟨Y,1,none⟩ (.string ⟨#[]⟩)).setCell ⟨Y,3,none⟩ (.bool c.fatal)).setCell ⟨Y,2,none⟩ (.bool g)).heap.size)=a.heap.size:=by simp
 have q:ie Y w ((((a.setCell ⟨Y,1,none⟩ (.string ⟨#[]⟩)).setCell ⟨Y,3,none⟩ (.bool c.fatal)).setCell ⟨Y,2,none⟩ (.bool g)).alloc (.cells #[.int .i64 c.kind,i,.string c.val,.string c.word,.bool c.fatal,.int .i64 c.id] 36)):=((((ie.dP x).setCell 1 _).setCell 3 _).setCell 2 _).alloc _;have u:∀(b:Nat) (o:Obj),a.heap[b]?=some o->b≠Y->((((a.setCell ⟨Y,1,none⟩ (.string ⟨#[]⟩)).setCell ⟨Y,3,none⟩ (.bool c.fatal)).setCell ⟨Y,2,none⟩ (.bool g)).alloc (.cells #[.int .i64 c.kind,i,.string c.val,.string c.word,.bool c.fatal,.int .i64 c.id] 36)).heap[b]?=some o:=fun b o h r=>dI (fV (fV (fV h r) r) r) _
 have B:((((a.setCell ⟨Y,1,none⟩ (.string ⟨#[]⟩)).setCell ⟨Y,3,none⟩ (.bool c.fatal)).setCell ⟨Y,2,none⟩ (.bool g)).alloc (.cells #[.int .i64 c.kind,i,.string c.val,.string c.word,.bool c.fatal,.int .i64 c.id] 36)).heap[a.heap.size]?=some (zt c i):=fD n.symm;have C:((((a.setCell ⟨Y,1,none⟩ (.string ⟨#[]⟩)).setCell ⟨Y,3,none⟩ (.bool c.fatal)).setCell ⟨Y,2,none⟩ (.bool g)).alloc (.cells #[.int .i64 c.kind,i,.string c.val,.string c.word,.bool c.fatal,.int .i64 c.id] 36)).heap.size=a.heap.size+1:=by simp
 refine⟨(l.block _ (by omega) (by omega)).trans B,(l.block _ (by omega) f).trans (u _ _ t f),y.other (PC _) (fun b Z s _=>?_),q.trans l⟩;have k:b≠Y:=fun e=>by grind
 have D:=cA s;exact((l.block b (by omega) k).trans (u b _ s k)).trans s.symm
theorem rq {s:St}{n:List ByteArray}(o:iU j Y d s)(r:gF j w.heap.size i n)(h:ie Y w j)(t:j.heap[w.heap.size]?=some ly)(m:¬Y=w.heap.size)(a b c e f g:Value):gF ((((((j.setCell ⟨w.heap.size,0,none⟩ a).setCell ⟨w.heap.size,1,none⟩ b).setCell ⟨w.heap.size,2,none⟩ c).setCell ⟨w.heap.size,3,none⟩ e).setCell ⟨w.heap.size,4,none⟩ f).setCell ⟨w.heap.size,5,none⟩ g) w.heap.size i n/\iU ((((((j.setCell ⟨w.heap.size,0,none⟩ a).setCell ⟨w.heap.size,1,none⟩ b).setCell ⟨w.heap.size,2,none⟩ c).setCell ⟨w.heap.size,3,none⟩ e).setCell ⟨w.heap.size,4,none⟩ f).setCell ⟨w.heap.size,5,none⟩ g) Y d s/\ie Y w ((((((j.setCell ⟨w.heap.size,0,none⟩ a).setCell ⟨w.heap.size,1,none⟩ b).setCell ⟨w.heap.size,2,none⟩ c).setCell ⟨w.heap.size,3,none⟩ e).setCell ⟨w.heap.size,4,none⟩ f).setCell ⟨w.heap.size,5,none⟩ g):=by
 refine⟨r.other (PC _) (fun b Z p _=>jB (fun e=>by rw[e,t]at p;cases p) _ _ _ _ _ _),⟨(jB m _ _ _ _ _ _).trans o.at_,o.ok⟩,?_⟩;have l:Below w.heap.size j ((((((j.setCell ⟨w.heap.size,0,none⟩ a).setCell ⟨w.heap.size,1,none⟩ b).setCell ⟨w.heap.size,2,none⟩ c).setCell ⟨w.heap.size,3,none⟩ e).setCell ⟨w.heap.size,4,none⟩ f).setCell ⟨w.heap.size,5,none⟩ g):=
  ((((((ct _ _).setCell (p:=⟨w.heap.size,0,none⟩) (PC _) _).setCell (p:=⟨w.heap.size,1,none⟩) (PC _) _).setCell (p:=⟨w.heap.size,2,none⟩) (PC _) _).setCell (p:=⟨w.heap.size,3,none⟩) (PC _) _).setCell (p:=⟨w.heap.size,4,none⟩) (PC _) _).setCell (p:=⟨w.heap.size,5,none⟩) (PC _) _
 exact⟨l.os.trans h.os,l.tape.trans h.tape,l.output.trans h.output,cP h.size l.size,fun k q u=>(l.block k q).trans (h.block k q u)⟩
theorem xd (Y:Nat)(d:Int)(s:St)(w:World)(hd:d=1\/d=2\/d=3)(R:iU w Y d s)(hs:s.held.length<=1000000000000):Calls prog 149 #[.pointer (some ⟨Y,0,none⟩)] w fun e w'=>PX w w' Y d s e/\ie Y w w':=by
 have D:=R.ok;have hY:=R.at_;obtain⟨v,I,J,B,U⟩:=th hY;have av:=cA hY;have HR:=cb R;have g:¬Y=w.heap.size:=by omega
 clear R;cases q:s.closed with
 |true=>
  have hh:=(D.closed q).1;have M:Hid (∀w' e,e=Ending.returned (.tuple #[jM,.bool false])->iU w' Y d s->PX w w' Y d s e):=fun w' e h1 h2=>by unfold PX;rw[hh,nO];exact⟨h1,h2⟩
  rw[q]at B;clear q hh hY D;go_wp2;refine cE (v:= .tuple #[jM,.bool false]) (by simp[results,results149,go_sem,jM]) rfl ⟨M.out _ _ rfl ⟨?_,HR.out.ok⟩,?_⟩
  .repeat(first|with_reducible exact HR.out.at_|with_reducible refine fV ?_ (by simp;try omega)|with_reducible refine gC ?_|with_reducible refine dI ?_ _)
  .refine .dP ?_;repeat(first|with_reducible exact ct _ _|with_reducible refine dV ?_|with_reducible refine dU ?_ (by simp;try omega) _|with_reducible refine dJ ?_ (by simp;try omega) _)
 |false=>
  rw[q]at B;have aj:=lr s.held;have ak:=cb D;have al:=cb q;clear q D hY;generalize hL:s.held.length=L at*;have N:=cb hL;have HH:=cb (show∀k,(PJ s.held).extract 0 k=PJ (s.held.take k)from fun k=>Kj _ _);have HD:=cb (show∀k,(PJ s.held).extract k (PJ s.held).size=PJ (s.held.drop k)from fun k=>QG _ _);have aa:Hid (w.heap[Y]?=some (.cells #[.int .i64 d,.string (PJ s.held),.bool s.pass,.bool false] 195 (0,0))):=by have:=HR.out.at_;unfold mO at this;rw[al.out]at this;exact this
  generalize PJ s.held=H at*;have am:=cb aj;clear hL;go_wp2;go_loopw [4] (fun n wr=>∃k:Nat,n= .int .i64 ((k:Int)+1)/\k<=L/\Hid (fw d (s.held.take k)=none)/\Hid (wr.heap[Y]?=some (.cells #[.int .i64 d,.string H,.bool s.pass,.bool false] 195 (0,0))/\wr.heap[w.heap.size]?=some ly/\Below w.heap.size w wr)) (fun n _=>L+1-(intOf n).toNat)
  case atStart=>
   refine⟨0,rfl,cG _,?_,?_⟩
   .show _=_;rw[jT,nO]
   .exact⟨dI aa.out _,du w _,cU⟩
  case round=>
   clear v I J B U;obtain⟨k,rfl,hk,M,f⟩:=hrel;have v:=cn f.out.1 0;have I:=cn f.out.1 1;have J:=cn f.out.1 2;have B:=cn f.out.1 3;have U:=dN f.out.1;simp at v I J B;obtain⟨⟨V,X,Z,r3,r4,r5⟩,rf⟩:=gf f.out.2.1;have E:=cA f.out.1;have ab:=cA f.out.2.1;by_cases an:k<L
   .have O:k<s.held.length:=by rw[N.out];exact an
    have i2:(0:Int)<=(k:Int)+1:=by omega
    have i3:(k:Int)+1<=(L:Int):=by omega
    have ac:s.held.take (k+1)=s.held.take k++[s.held[k]]:=by rw[eV,cp O];rfl
    have x:Hid (∀W:World,W.cell? ⟨Y,0,none⟩=some (.int .i64 d)->Y<W.heap.size->Calls prog 165 #[.pointer (some ⟨Y,0,none⟩),.string (H.extract 0 (k+1))] W fun r w'=>mi W w' (fw d (s.held.take (k+1))) r/\Below W.heap.size W w'):=fun W h1 h2=>by
     rw[HH.out];have:=BU Y d (PJ (s.held.take (k+1))) (s.held.take k) s.held[k] W hd h1 h2 (by rw[lr,fh];omega) (by rw[tb,ac]) M.out;rw[tb]at this;exact this
    clear ac;cases P:fw d (s.held.take (k+1))with
    |none=>
     rw[P]at x;have ao:=cb P;clear P;go_wp2_with fail
     go_at_call 165;refine(x.out _ (by first|exact v|(rw[Below.cell_alloc' (by omega)];exact v)) (by first|exact E|(simp;omega))).mono ?_;rintro r C ⟨hO,l⟩;have Q:=mi.Rg hO;subst Q;have b:Hid (C.heap[Y]?=some (.cells #[.int .i64 d,.string H,.bool s.pass,.bool false] 195 (0,0))/\C.heap[w.heap.size]?=some ly/\Below w.heap.size w C):=⟨(l.block _ E).trans f.out.1,(l.block _ ab).trans f.out.2.1,f.out.2.2.trans (l.mono f.out.2.2.size)⟩
     clear hO l;unfold jM;go_wp2;go_roundw;case rel=>exact⟨k+1,by go_num,by omega,ao,dI b.out.1 _,dI b.out.2.1 _,b.out.2.2.alloc b.out.2.2.size _⟩
     case measure=>simp[intOf];omega
    |some t=>
     rw[P]at x;obtain⟨ad,ae⟩:=QM ak.out O M.out P;have K:=JM O M.out P;have F:Hid (∀w' e,(∃i,e=Ending.returned (.tuple #[iW t.c i,.bool true])/\gF w' w.heap.size i t.c.keys/\iU w' Y d (FN t (s.held.drop (k+1))))->PX w w' Y d s e):=fun w' e h=>by unfold PX;rw[ad];simp only;rw[ae];exact h
     have af:Hid (∀W:World,W.heap[Y]?=some (mO d ⟨[],t.skip,t.c.fatal⟩)->Calls prog 148 #[.pointer (some ⟨Y,0,none⟩),.string (H.extract (k+1) L)] W fun e w'=>e= .returned (.tuple #[])/\iU w' Y d (FN t (s.held.drop (k+1)))/\ie Y W w'):=fun W h=>by
      rw[<-am.out,HD.out];have aw:=N.out;have:=tn Y d ⟨[],t.skip,t.c.fatal⟩ (PJ (s.held.drop (k+1))) W ⟨h,K⟩ (by rw[lr,fR];simp;omega);rw[tb]at this;exact this
     clear P ad ae K;go_wp2_with fail
     go_at_call 165;refine(x.out _ (by first|exact v|(rw[Below.cell_alloc' (by omega)];exact v)) (by first|exact E|(simp;omega))).mono ?_;rintro r C ⟨⟨i,Q,hK⟩,l⟩;subst Q;obtain⟨ka,kc,ap⟩:=hK.form;subst ap;have ag:gF C w.heap.size (.slice ka t.c.keys.length kc) t.c.keys:=hK.other f.out.2.2.size (fun _ _ _ _=>rfl);have m:=(l.block _ E).trans f.out.1;have S:=(l.block _ ab).trans f.out.2.1;have b:Hid (C.heap[Y]?=some (.cells #[.int .i64 d,.string H,.bool s.pass,.bool false] 195 (0,0))/\C.heap[w.heap.size]?=some ly/\Below w.heap.size w C/\gF C w.heap.size (.slice ka t.c.keys.length kc) t.c.keys):=⟨m,S,f.out.2.2.trans (l.mono f.out.2.2.size),ag⟩
     clear v I J B U V X Z r3 r4 r5 rf;have v:=cn m 0;have I:=cn m 1;have J:=cn m 2;have B:=cn m 3;have U:=dN m;simp at v I J B;have ar:=cA m;have au:=cA S;clear hK l ag m S x f M;unfold iW;have ah:Hid (∀(sk:Bool),t.skip=sk->∀o,((((C.setCell ⟨Y,1,none⟩ (.string ⟨#[]⟩)).setCell ⟨Y,3,none⟩ (.bool t.c.fatal)).setCell ⟨Y,2,none⟩ (.bool sk)).alloc o).heap[Y]?=some (mO d ⟨[],t.skip,t.c.fatal⟩)):=fun sk u o=>by
      rw[u];exact(dI (dh (i:=2) (dh (i:=3) (dh (i:=1) b.out.1 _) _) _) o).trans rfl
     cases u:t.skip with
     |true=>
      have T:=cb u;clear u;dsimp only
      rw[cN rfl];go_wp2_with fail
      go_at_call 148;refine(af.out _ (ah.out true T.out _)).mono ?_;rintro e j ⟨rfl,y,hT⟩;obtain⟨a,p,z,A⟩:=AH true b.out.1 b.out.2.1 b.out.2.2.1 b.out.2.2.2 g hT;have c:=cb (cd y (cd z (cd A p)));have q0:=cn a 0;have q1:=cn a 1;have q2:=cn a 2;have q3:=cn a 3;have q4:=cn a 4;have q5:=cn a 5;simp at q0 q1 q2 q3 q4 q5;obtain⟨⟨V,X,Z,r3,r4,r5⟩,rf⟩:=gf p;clear y hT a p z A v I J B U;go_wp2;refine cE (v:= .tuple #[iW t.c (.slice ka t.c.keys.length kc),.bool true]) (by simp[results,results149,go_sem,iW,V,X,Z,r3,r4,r5]) rfl ⟨F.out _ _ ⟨_,rfl,(rq c.out.1 c.out.2.1 c.out.2.2.1 c.out.2.2.2 g _ _ _ _ _ _).1,(rq c.out.1 c.out.2.1 c.out.2.2.1 c.out.2.2.2 g _ _ _ _ _ _).2.1⟩,(rq c.out.1 c.out.2.1 c.out.2.2.1 c.out.2.2.2 g _ _ _ _ _ _).2.2⟩
     |false=>
      have T:=cb u;clear u;dsimp only
      rw[cD (by simp)];go_wp2_with fail
      go_at_call 148;refine(af.out _ (ah.out false T.out _)).mono ?_;rintro e j ⟨rfl,y,hT⟩;obtain⟨a,p,z,A⟩:=AH false b.out.1 b.out.2.1 b.out.2.2.1 b.out.2.2.2 g hT;have c:=cb (cd y (cd z (cd A p)));have q0:=cn a 0;have q1:=cn a 1;have q2:=cn a 2;have q3:=cn a 3;have q4:=cn a 4;have q5:=cn a 5;simp at q0 q1 q2 q3 q4 q5;obtain⟨⟨V,X,Z,r3,r4,r5⟩,rf⟩:=gf p;clear y hT a p z A v I J B U;go_wp2;refine cE (v:= .tuple #[iW t.c (.slice ka t.c.keys.length kc),.bool true]) (by simp[results,results149,go_sem,iW,V,X,Z,r3,r4,r5]) rfl ⟨F.out _ _ ⟨_,rfl,(rq c.out.1 c.out.2.1 c.out.2.2.1 c.out.2.2.2 g _ _ _ _ _ _).1,(rq c.out.1 c.out.2.1 c.out.2.2.1 c.out.2.2.2 g _ _ _ _ _ _).2.1⟩,(rq c.out.1 c.out.2.1 c.out.2.2.1 c.out.2.2.2 g _ _ _ _ _ _).2.2⟩
   .have aq:k=L:=by omega
    subst aq;have ai:fw d s.held=none:=by
     have:=M.out;rw[dt (by rw[N.out];exact PC _)]at this;exact this
    have F:Hid (∀w' e,e=Ending.returned (.tuple #[jM,.bool false])->iU w' Y d s->PX w w' Y d s e):=fun w' e h1 h2=>by unfold PX;rw[ai];exact⟨h1,h2⟩
    clear ai;go_wp2;refine cE (v:= .tuple #[jM,.bool false]) (by simp[results,results149,go_sem,jM,V,X,Z,r3,r4,r5]) rfl ⟨F.out _ _ rfl ⟨?_,HR.out.ok⟩,?_⟩
    .refine(jB g _ _ _ _ _ _).trans (f.out.1.trans ?_);rw[<-aa.out];exact HR.out.at_
    .exact .dP (tA f.out.2.2 (PC _) _ _ _ _ _ _)
section
attribute [local go_sem] Oper.semAt_some
def xT (D:Nat):Obj:= .cells #[.pointer (some ⟨D,0,none⟩)] 97 (0,0)
end
section
variable {W:World}{D t:Nat}{hb:Option Nat}{s:St}
attribute [local go_sem] Oper.semAt_some
theorem PD.apart {b T:Nat}{Z:Array Value}{f:Nat×Nat}(R:PD W D hb t s)(a:W.heap[b]?=some (.cells Z T f))(d:T≠134)(e:T≠5):b≠D/\some b≠hb:=by
 obtain⟨⟨v,u,h,⟨⟨i,⟨p,j⟩,q⟩,c⟩,k⟩,l⟩:=R;refine⟨?_,?_⟩
 .rintro rfl;rw[h]at a;simp[BE]at a;exact d a.2.1.symm
 .rintro rfl;rcases j with⟨rfl,_⟩|⟨g,m,n,rfl,_,o,_⟩
  .cases c
  .cases c;rw[o]at a;simp at a;exact e a.2.1.symm
def tM (w:World)(D:Nat):Nat:=
 match w.cell? ⟨D,1,none⟩,w.cell? ⟨D,2,none⟩with
 |some (.slice _ n _),some (.int _ u)=>n-u.toNat
 |_,_=>0
theorem PD.len (R:PD W D hb t s):tM W D=s.held.length:=by
 obtain⟨⟨v,u,b,H,d⟩,e⟩:=R;obtain⟨d0,d1,d2,_⟩:=ou b;unfold tM;rw[d1,d2];rcases H.form with⟨rfl,rfl,a,_⟩|⟨g,n,c,f,rfl,_,_,h,_,i,a,_⟩
 .rw[a];simp
 .rw[a,fR,h];simp
def vT (c:iO)(a:Value):Array Value:=#[.int .i64 c.kind,a,.string c.val,.string c.word,.bool c.fatal,.int .i64 c.id]
theorem Hs (l X D t:Nat)(d:Int)(K:World)(J:Option Nat->List iO->World->Prop)(f:∀W hb s,PD W D hb t s->s.held.length<=140737488355328->Calls prog 121 #[.pointer (some ⟨D,0,none⟩)] W fun e w'=>rJ W w' D hb t s (fw d s.held) e)(hB:∀hb a W O,J hb a W->Below W.heap.size W O->J hb a O)(hY:∀hb a W s x L u w y,J hb a W->PD W D hb t s->fw d s.held=some x->gV L W.heap.size (.slice u w y) x.c.keys->mP W L D hb t (fm s x)->L.heap[X]?=some (xT D)->YieldAt Fence.wide 7 prog l #[.agg #[.int .i64 x.c.kind,.slice u w y,.string x.c.val,.string x.c.word,.bool x.c.fatal,.int .i64 x.c.id]] (L.alloc (.cells #[.int .i64 x.c.kind,.slice u w y,.string x.c.val,.string x.c.word,.bool x.c.fatal,.int .i64 x.c.id] 36)) fun e r=>e= .returned (.bool true)/\∃b,PD r D b t (fm s x)/\r.heap[X]?=some (xT D)/\J b (a++[x.c]) r)(s:St)(hb:Option Nat)(R:PD K D hb t s)(hX:K.heap[X]?=some (xT D))(h0:J hb [] K)(P:s.held.length<=140737488355328):CallsIn Fence.wide 8 prog 120 #[.func (.yield l) #[] #[],.pointer (some ⟨X,0,none⟩)] K fun e r=>(∃v,e= .returned v)/\∃b,PD r D b t (iP d s).2/\J b (iP d s).1 r:=by
 have Q:=cb f;have HB:=cb hB;have HY:=cb hY;have S:=cb (cd R (cd hX h0));clear f hB hY h0 R hX;generalize n:(iP d s).1=T;generalize o:(iP d s).2=U;have HT:=cb (cd n o);clear n o;refine callsIn_of_wp func120 rfl Qa ?_ rfl;simp only[ntmps120,ki,dc,fk,Nat.reduceAdd,Nat.reduceSub,Array.replicate_succ,Array.replicate_zero,List.push_toArray,List.append_toArray,fI,ja]
 gi_wp2;gi_loopw [3,4] (fun _ _ wr=>∃(i:St) (b:Option Nat) (a:List iO),i.held.length<=140737488355328/\Hid (PD wr D b t i/\wr.heap[X]?=some (xT D)/\J b a wr/\a++(iP d i).1=T/\(iP d i).2=U)) (fun _ _ wr=>tM wr D);case atStart=>exact⟨s,hb,[],P,S.out.1,S.out.2.1,S.out.2.2,by rw[fI];exact HT.out.1,HT.out.2⟩
 case round=>
  obtain⟨i,b,a,z,c⟩:=hrel;have j:=c.out.2.1;unfold xT at j;have x0:=cn j 0;simp at x0;have A:=cA j;clear j;have k:=cb (Q.out wr b i c.out.1 z);cases g:fw d i.held with
  |none=>
   rw[g]at k;gi_wp2_with fail;refine⟨Qa,?_⟩;refine(callsIn_wide.2 k.out).mono ?_;rintro e w1 ⟨rfl,R1,B1⟩;have H1:=cb (cd R1 B1);clear R1 B1;unfold tK;gi_wp2;refine⟨fun _ h=>(by cases h),?_⟩;gi_wp2;refine cE (pX rfl _ _ _) rfl ?_;have hd:=mw g;have p:=c.out.2.2.2;rw[hd]at p;have B:=H1.out.2.alloc H1.out.2.size (.cells #[.int .i64 0,.slice none 0 0,.string ⟨#[]⟩,.string ⟨#[]⟩,.bool false,.int .i64 0] 36);refine⟨⟨_,rfl⟩,b,?_,?_⟩
   .rw[<-p.2];exact c.out.1.below B
   .rw[<-p.1,il];exact HB.out _ _ _ _ c.out.2.2.1 B
  |some x=>
   rw[g]at k;have m:=cb g;clear g;gi_wp2_with fail;refine⟨Qa,?_⟩;refine(callsIn_wide.2 k.out).mono ?_;rintro e w1 ⟨u,w,y,rfl,C,V⟩;have q:=c.out.1.apart (b:=X) (show wr.heap[X]?=some (.cells #[.pointer (some ⟨D,0,none⟩)] 97 (0,0))from c.out.2.1) (by decide) (by decide);have E:=(V.turn.block X A q.1 q.2).trans c.out.2.1;have hy:=HY.out b a wr i x w1 u w y c.out.2.2.1 c.out.1 m.out C V E;obtain⟨fn,aa,M,ab,Y,F⟩:=hy;have H:=cb F;clear C V E F q;gi_wp2;refine H.out.mono ?_;rintro e O ⟨rfl,Z,R2,I,J2⟩;have N:=cb (cd R2 (cd I J2));clear R2 I J2 Y H
   gi_wp2;go_roundw;case rel=>
    have p:=c.out.2.2.2;rw[qJ m.out]at p;have hl:=jc m.out;refine⟨fm i x,Z,a++[x.c],by omega,N.out.1,N.out.2.1,N.out.2.2,?_,p.2⟩;rw[fx];exact p.1
   case measure=>
    have hl:=jc m.out;rw[N.out.1.len,c.out.1.len];exact hl
end
variable {W m:World}{D t b d:Nat}{hb:Option Nat}{s a:St}{o:Obj}{v:Value}{cs:List iO}
def gx:List iO->List Value->List Value
 |c::cs,b::a=>(vT c b).toList++gx cs a
 |_,_=>[]
theorem ue:∀(cs:List iO) (a:List Value) (c:iO) (b:Value),a.length=cs.length->gx (cs++[c]) (a++[b])=gx cs a++(vT c b).toList:=by
 intro cs;induction cs with
 |nil=>
  intro a c b h;have:=dw.1 h;subst this;simp[gx]
 |cons x cs d=>
  intro a c b h;cases a with
  |nil=>simp at h
  |cons y a=>
   simp only[ja,gx]
   rw[d a c b (by simp_all),fx]
theorem Bo:∀(cs:List iO) (a:List Value) (i j:Nat) (c:iO) (b:Value),cs[i]?=some c->a[i]?=some b->j<6->(gx cs a)[6*i+j]?=(vT c b)[j]?:=by
 intro cs;induction cs with
 |nil=>intro a i j c b h;simp at h
 |cons x cs g=>
  intro a i j c b f d k;cases a with
  |nil=>simp at d
  |cons y a=>
   simp only[gx]
   cases i with
   |zero=>
    simp at f d;subst f;subst d;rw[cW (by simp[vT];omega)];simp
   |succ i=>
    have e:6*(i+1)+j=(vT x y).toList.length+(6*i+j):=by simp[vT];omega
    rw[e,dg (by omega),kM];exact g a i j c b (by simp_all) (by simp_all) k
def DX (W:World)(d:Nat)(v:Value)(cs:List iO):Prop:=
 ∃b:List Value,b.length=cs.length/\W.ownsRow d 36 6 v cs.length (gx cs b)/\(∀e∈b,∃a n c,e= .slice a n c)/\∀(i:Nat) (c:iO) (e:Value),cs[i]?=some c->b[i]?=some e->gV W d e c.keys
theorem PD.rL (R:PD W D hb t s)(c:W.heap[b]?=some o)(d:∀Z f,o≠ .cells Z 134 f)(e:∀Z f,o≠ .cells Z 5 f):b≠D/\some b≠hb:=by
 obtain⟨⟨v,u,h,⟨⟨i,⟨q,j⟩,r⟩,a⟩,k⟩,l⟩:=R;refine⟨?_,?_⟩
 .rintro rfl;rw[h]at c;exact d _ _ (gQ c).symm
 .rintro rfl;rcases j with⟨rfl,_⟩|⟨g,m,n,rfl,_,p,_⟩
  .cases a
  .cases a;rw[p]at c;exact e _ _ (gQ c).symm
theorem mP.keep (T:mP W m D hb t a)(R:PD W D hb t s)(c:W.heap[b]?=some o)(d:∀Z f,o≠ .cells Z 134 f)(e:∀Z f,o≠ .cells Z 5 f):m.heap[b]?=some o:=by
 obtain⟨g,h⟩:=R.rL c d e;exact(T.turn.block b (cA c) g h).trans c
def hG (W:World)(d l:Nat)(v:Value)(cs:List iO):Prop:=
 ∃e:List Value,e.length=cs.length/\W.ownsRow d 36 6 v cs.length (gx cs e)/\(∀f∈e,∃a n c,f= .slice a n c)/\(∀(i:Nat) (c:iO) (f:Value),cs[i]?=some c->e[i]?=some f->gV W d f c.keys)/\(∀f∈e,∀b,f.ownBlock=some b->b<l)/\∀(i j:Nat) (f g:Value) (b:Nat),i<j->e[i]?=some f->e[j]?=some g->f.ownBlock=some b->g.ownBlock≠some b
theorem hG.Sa {l:Nat}(h:hG W d l v cs):DX W d v cs:=by
 obtain⟨a,b,c,e,f,_⟩:=h;exact⟨a,b,c,e,f⟩
theorem vg {a:Value}{e:List ByteArray}(h:gV W d a e)(hb:a.ownBlock=some b):d<=b/\b<W.heap.size:=by
 rcases h with⟨rfl,_⟩|⟨i,c,rfl,f,Z,g,_⟩
 .cases hb
 .cases hb;exact⟨f,cA g⟩
theorem hG.nil (W:World)(d l:Nat):hG W d l (.slice none 0 0) []:=⟨[],rfl,dv _ _ _ _,fun _ h=>(by cases h),fun i c a h=>(by simp at h),fun _ h=>(by cases h),fun i j a e b _ h=>(by simp at h)⟩
section
variable {l:Nat}
theorem hG.top (h:hG W d l v cs):hG W d W.heap.size v cs:=by
 obtain⟨a,j,k,m,f,q,n⟩:=h;refine⟨a,j,k,m,f,fun g c b hb=>?_,n⟩;obtain⟨i,l,e⟩:=dG.1 c;have o:a[i]?=some g:=by grind
 have p:cs[i]?=some (cs[i]'(by omega)):=cp _;exact(vg (f i _ g p o) hb).2
theorem hG.keep (h:hG W d l v cs)(k:∀b (Z:Array Value) (T:Nat),W.heap[b]?=some (.cells Z T (0,0))->(T=36\/T=9)->d<=b->m.heap[b]?=W.heap[b]?):hG m d l v cs:=by
 obtain⟨n,r,⟨s,o⟩,t,u,f,j⟩:=h;refine⟨n,r,⟨s,?_⟩,t,fun i c w x p=>(u i c w x p).other (PC _) (fun b c Z y _ z=>k b Z 9 y (.inr rfl) z),f,j⟩;rcases o with o|⟨g,q,a,e,f,j,A⟩
 .exact .inl o
 .exact .inr ⟨g,q,a,e,f,(k g a 36 j (.inl rfl) f).trans j,A⟩
theorem hG.below (h:hG W d l v cs)(hb:Below W.heap.size W m):hG m d l v cs:=h.keep (fun b Z T a _ _=>hb.block b (cA a))
theorem hG.Pt (h:hG W d l v cs)(T:mP W m D hb t a)(R:PD W D hb t s):hG m d l v cs:=
 h.keep (fun b Z g c i _=>(T.keep R c (fun Z f e=>by grind) (fun Z f e=>by grind)).trans c.symm)
theorem hG.snoc {v':Value}{c:iO}{s:Option Addr}{t u:Nat}{k:List Value}(y:k.length=cs.length)(L:∀o∈k,∃a n c,o= .slice a n c)(M:∀(i:Nat) (c:iO) (o:Value),cs[i]?=some c->k[i]?=some o->gV W d o c.keys)(H:∀o∈k,∀b,o.ownBlock=some b->b<l)(N:∀(i j:Nat) (o q:Value) (b:Nat),i<j->k[i]?=some o->k[j]?=some q->o.ownBlock=some b->q.ownBlock≠some b)(w:∀g,v.ownBlock=some g->∀Z f,W.heap[g]?≠some (.cells Z 9 f))(I:gV W d (.slice s t u) c.keys)(B:∀b,(Value.slice s t u).ownBlock=some b->l<=b)(O:W.grownBy m v.ownBlock)(P:m.ownsRow d 36 6 v' (cs.length+1) (gx cs k++(vT c (.slice s t u)).toList)):hG m d m.heap.size v' (cs++[c]):=by
 have r:∀{o:Value} {J:List ByteArray},gV W d o J->gV m d o J:=fun h=>h.other (PC _) (fun b c Z K _ _=>O.block b (cA K) (fun e=>w b e.symm Z _ K))
 have x:∀(j:Nat) (q:Value),k.length<=j->(k++[.slice s t u])[j]?=some q->q= .slice s t u:=by grind
 refine hG.top (l:=max l m.heap.size) ⟨k++[.slice s t u],by simp[y],?_,?_,?_,?_,?_⟩
 .rw[ue cs k c _ y,cI];exact P
 .intro o p;rcases cr.1 p with h|h
  .exact L o h
  .rw[gl]at h;exact⟨_,_,_,h⟩
 .intro i Q o z p;by_cases l:i<cs.length
  .rw[cW l]at z;rw[cW (by omega)]at p;exact r (M i Q o z p)
  .have C:i=cs.length:=by grind
   subst C;rw[<-y,dg (PC _)]at p;simp at z p;subst z;subst p;exact r I
 .intro o p b hb;rcases cr.1 p with h|h
  .have:=H o h b hb;omega
  .rw[gl]at h;subst h;have:=(vg (r I) hb).2;omega
 .intro i j o q b D l A hb;by_cases E:j<k.length
  .rw[cW (by omega)]at l;rw[cW E]at A;exact N i j o q b D l A hb
  .have e:=x j q (by omega) A;subst e;have F:i<k.length:=by
    have:=(cq.1 A).1;simp at this;omega
   rw[cW F]at l;intro h;have y:=B b h;have R:=H o (cu l) b hb;omega
end
theorem EH:∃i z,prog.info? 36=some i/\i.zero=some z/\i.size=6/\i.bytes=80/\z.cells.size=6:=by
 have h:(prog.info? 36).map (fun i=>(i.zero,i.size,i.bytes))=some (some (.agg #[.int .i64 0,.slice none 0 0,.string ⟨#[]⟩,.string ⟨#[]⟩,.bool false,.int .i64 0]),6,80):=by kernel_rfl
 cases l:prog.info? 36 with
 |none=>rw[l]at h;cases h
 |some i=>
  rw[l]at h;simp only[gP,iJ,gi]at h;exact⟨i,_,rfl,h.1,h.2.1,h.2.2,rfl⟩
section
attribute [local go_sem] Oper.semAt_some
structure OQ (w W:World)(D t B:Nat)(hb0 hb:Option Nat)(L K:Nat)(lo:Obj)(done:List iO):Prop where
 hl:W.heap[L]?=some lo
 hk:W.heap[K]?=some (.deferred (some []))
 hv:∃v,W.heap[w.heap.size]?=some (.cells #[v] 28 (0,0))/\hG W w.heap.size W.heap.size v done
 turn:iV D hb0 w W
 fresh:lN w hb0 hb
 len:∃s,PD W D hb t s/\done.length+s.held.length<=B
theorem pV (w:World)(r:Nat)(o:Obj)(a:World)(D:Nat)(hb:Option Nat)(h:iV D hb a w)(e:a.heap.size<=r):iV D hb a (w.putObj r o):=
 ⟨h.os,h.tape,h.output,by simpa using h.size,fun k b c d=>(World.putObj_heap_other (by omega)).trans (h.block k b c d)⟩
theorem Bi (X D t:Nat)(d:Int)(E:Option Nat)(s0:St)(w:World)(aq:∀W hb s,PD W D hb t s->s.held.length<=140737488355328->Calls prog 121 #[.pointer (some ⟨D,0,none⟩)] W fun e w'=>rJ W w' D hb t s (fw d s.held) e)(R0:PD w D E t s0)(hX:w.heap[X]?=some (xT D))(aV:s0.held.length<=1000000000000):Calls prog 119 #[.slice none 0 0,.func (.func 120) #[] #[.pointer (some ⟨X,0,none⟩)]] w fun e w'=>∃v q,e= .returned v/\hG w' w.heap.size w'.heap.size v (iP d s0).1/\PD w' D q t (iP d s0).2/\lN w E q/\iV D E w w':=by
 refine(callsIn_wide (n:=9)).1 ?_;refine callsIn_of_wp_marks func119 rfl Qa ?_ rfl;simp only[ntmps119,ki,dc,fk,Nat.reduceAdd,Nat.reduceSub,Array.replicate_succ,Array.replicate_zero,List.push_toArray,List.append_toArray,fI,ja]
 gi_wp2;generalize ar:w.alloc (Obj.cells #[Value.slice none 0 0] 28)=p;have au:p.heap.size=w.heap.size+1:=by rw[<-ar];simp
 have aB:p.heap[w.heap.size]?=some (.cells #[.slice none 0 0] 28 (0,0)):=by rw[<-ar];exact du w _
 have aW:Below w.heap.size w p:=by rw[<-ar];exact cU
 refine wpIn_rangeFunc ?_;intro fn aX;generalize z:(fun(st:LoopState) (pe:Option Code)=>({state:=st,pending:=pe,fn:=fn,tmps:=#[Value.slice none 0 0,Value.func (Fn.func 120) #[] #[Value.pointer (some {block:=X,off:=0})],Value.pointer (some {block:=w.heap.size,off:=0}),undef,Value.slice none 0 0,undef,Value.func (Fn.func 120) #[] #[Value.pointer (some {block:=X,off:=0})],undef,undef,undef,undef,undef,undef],params:=#[7],assign:=(Code.region 2 #[{dst:=some 5,op:=Op.alloc 36,type:=0,pos:= "iter.go:51",after:=#[],guard:=none},{dst:=none,op:=Op.store 36 (Operand.tmp 5) (Operand.tmp 7),type:=0,pos:= "iter.go:51",after:=#[{on:=0,ground:=Ground.data},{on:=0,ground:=Ground.phase}],guard:=none}] false),body:=(Code.block 1 (Code.region 3 #[{dst:=some 8,op:=Op.load 28 (Operand.tmp 2),type:=28,pos:= "iter.go:52",after:=#[],guard:=none},{dst:=some 9,op:=Op.load 36 (Operand.tmp 5),type:=36,pos:= "iter.go:52",after:=#[],guard:=none},{dst:=some 10,op:=Op.buildSlice 28 1 #[(0,Operand.tmp 9)],type:=28,pos:= "iter.go:52",after:=#[{on:=1,ground:=Ground.data}],guard:=none},{dst:=some 11,op:=Op.call {callee:=Callee.builtin Builtin.append,args:=#[Operand.tmp 8,Operand.tmp 10],argTypes:=#[28,28]},type:=28,pos:= "iter.go:52",after:=#[{on:=0,ground:=Ground.data},{on:=2,ground:=Ground.data}],guard:=none},{dst:=none,op:=Op.store 28 (Operand.tmp 2) (Operand.tmp 11),type:=0,pos:= "iter.go:52",after:=#[{on:=3,ground:=Ground.data},{on:=3,ground:=Ground.chain},{on:=0,ground:=Ground.phase},{on:=1,ground:=Ground.phase},{on:=2,ground:=Ground.phase},{on:=3,ground:=Ground.phase}],guard:=none}] false)),defers:=p.heap.size}:Loop))=U
 generalize Y:(p.alloc (.deferred (some []))).alloc (.loop (U .ready none))=W1;have aC:W1.heap.size=w.heap.size+3:=by rw[<-Y];simp;omega
 have aY:W1.heap[p.heap.size+1]?=some (.loop (U .ready none)):=by
  rw[<-Y];have:=du (p.alloc (.deferred (some []))) (.loop (U .ready none));rwa [cF]at this
 have aZ:W1.heap[p.heap.size]?=some (.deferred (some [])):=by
  rw[<-Y];exact(cC _ _ _ (by simp)).trans (du p _)
 have aD:Below p.heap.size p W1:=by
  rw[<-Y];exact(((ct _ p).alloc (PC _) _).alloc (by simp) _)
 refine⟨p.heap.size+1,[{target:= .collected p.heap.size,args:=#[]}],W1,{target:= .fn (.func 120) #[.pointer (some ⟨X,0,none⟩)],args:=#[.func (.yield (p.heap.size+1)) #[] #[]]},W1,120,
  #[.func (.yield (p.heap.size+1)) #[] #[],.pointer (some ⟨X,0,none⟩)],W1,?_,?_,?_,?_,fun _=>by omega,?_⟩
 .rw[<-Y,<-z];exact run_enterLoop_outer _ _ _ _ _
 .simp[resolve,go_sem]
 .intro f' bq;trivial
 .simp[invoke,go_sem]
 .have lX:=cA hX;have av:Below w.heap.size w W1:=aW.trans (aD.mono (by omega));have a0:=(av.block X lX).trans hX;have aE:=R0.below av;have a1:W1.heap[w.heap.size]?=some (.cells #[.slice none 0 0] 28 (0,0)):=(aD.block w.heap.size (by omega)).trans aB;refine(Hs (p.heap.size+1) X D t d W1 (fun hb m W=>OQ w W D t 1000000000000 E hb (p.heap.size+1) p.heap.size (.loop (U .ready none)) m) aq ?hB ?hY s0 E aE a0 ⟨aY,aZ,⟨_,a1,hG.nil _ _ _⟩,.dP av,.inl rfl,s0,aE,by simpa using aV⟩ (by omega)).mono ?hdone;case hB=>
   rintro hb m A B ⟨h1,h2,⟨v,h3,h4⟩,h5,h6,s,h7,h8⟩ V;exact⟨(V.block _ (cA h1)).trans h1,(V.block _ (cA h2)).trans h2,⟨v,(V.block _ (cA h3)).trans h3,(h4.below V).top⟩,h5.trans (.dP (hb:=none) V) (.inr (.inl rfl)),h6,s,h7.below V,h8⟩
  case hY=>
   rintro hb m W s x Wr J K L ⟨h1,h2,⟨v,h3,h4⟩,h5,h6,s',h7,h8⟩ hR hx hk T1 aF;have bo:s'.held.length=s.held.length:=by rw[<-h7.len,hR.len]
   have a2:=jc hx;have r1:=T1.keep hR h1 (fun Z f e=>by cases e) (fun Z f e=>by cases e);have r2:=T1.keep hR h2 (fun Z f e=>by cases e) (fun Z f e=>by cases e);have r3:=T1.keep hR h3 (fun Z f e=>by cases e) (fun Z f e=>by cases e);have r4:=h4.Pt T1 hR;have br:=T1.turn.size;obtain⟨⟨ad,RR,FF⟩,TT⟩:=T1;have T5:=h5.trans TT h6;have F5:lN w E ad:=h6.trans FF h5.size;have ae:∀b,(Value.slice J K L).ownBlock=some b->W.heap.size<=b:=fun b hb=>(vg hk hb).1
   have a3:gV Wr w.heap.size (.slice J K L) x.c.keys:=hk.other (by have:=h5.size;omega) (fun _ _ _ _ _ _=>rfl);have aG:=h5.size;have a4:=cA r1;have a5:=cA r2;have a6:=cA r3;have B2:Below Wr.heap.size Wr (Wr.alloc (.cells #[.int .i64 x.c.kind,.slice J K L,.string x.c.val,.string x.c.word,.bool x.c.fatal,.int .i64 x.c.id] 36)):=cU;generalize bs:Wr.alloc (.cells #[.int .i64 x.c.kind,.slice J K L,.string x.c.val,.string x.c.word,.bool x.c.fatal,.int .i64 x.c.id] 36)=W2 at*;have l2:=(B2.block _ a4).trans r1;have k2:=(B2.block _ a5).trans r2;have s2:=(B2.block _ a6).trans r3
   have c2:=r4.below B2;have R2:=RR.below B2;have X2:=(B2.block _ (cA aF)).trans aF;have T2:=T5.trans (.dP (hb:=none) B2) (.inr (.inl rfl));have af:gV W2 w.heap.size (.slice J K L) x.c.keys:=a3.other (PC _) (fun b c Z r _ _=>B2.block b (cA r));have aw:=run_yield (P:=prog) (args:=#[.agg #[.int .i64 x.c.kind,.slice J K L,.string x.c.val,.string x.c.word,.bool x.c.fatal,.int .i64 x.c.id]]) l2 (by rw[<-z];rfl);rw[<-z]at aw;refine⟨fn,_,_,_,aw,roundIn_of_wpIn aX ?_⟩;have H2:=cb (cd l2 (cd k2 (cd s2 (cd c2 (cd R2 (cd X2 (cd T2 af)))))));clear aw l2 k2 s2 c2 R2 X2 T2 af
   dsimp only
   gi_wp2;obtain⟨l2,k2,s2,c2,R2,X2,T2,af⟩:=H2.out;have B3:Below W2.heap.size W2 (W2.alloc (.cells #[.int .i64 x.c.kind,.slice J K L,.string x.c.val,.string x.c.word,.bool x.c.fatal,.int .i64 x.c.id] 36)):=cU;have aH:=du W2 (.cells #[.int .i64 x.c.kind,.slice J K L,.string x.c.val,.string x.c.word,.bool x.c.fatal,.int .i64 x.c.id] 36);generalize bt:W2.alloc (.cells #[.int .i64 x.c.kind,.slice J K L,.string x.c.val,.string x.c.word,.bool x.c.fatal,.int .i64 x.c.id] 36)=W3 at*;have l3:=(B3.block _ (cA l2)).trans l2;have k3:=(B3.block _ (cA k2)).trans k2;have s3:=(B3.block _ (cA s2)).trans s2;have c3:=c2.below B3;have R3:=R2.below B3
   have X3:=(B3.block _ (cA X2)).trans X2;have T3:=T2.trans (.dP (hb:=none) B3) (.inr (.inl rfl));have a7:gV W3 w.heap.size (.slice J K L) x.c.keys:=af.other (PC _) (fun b c Z r _ _=>B3.block b (cA r));have aI:W2.heap.size<W3.heap.size:=cA aH;have aJ:p.heap.size+1<W2.heap.size:=cA l2;refine⟨_,run_beginRound l3 (by rw[<-z]),?_⟩;have aK:=cA l3;generalize ag:W3.putObj (p.heap.size+1) (.loop {U .ready none with state:= .busy})=I;have M:∀k,k≠p.heap.size+1->I.heap[k]?=W3.heap[k]?:=fun k hk=>by rw[<-ag];exact World.putObj_heap_other hk
   have aa:∀k (Z:Array Value) (T:Nat) f,W3.heap[k]?=some (.cells Z T f)->k≠p.heap.size+1:=fun k Z T f r e=>by rw[e,l3]at r;cases r
   have l4:I.heap[p.heap.size+1]?=some (.loop {U .ready none with state:= .busy}):=by rw[<-ag];exact World.putObj_heap_same aK
   have aL:I.heap.size=W3.heap.size:=by rw[<-ag];simp[World.putObj]
   have T4:iV D E w I:=by rw[<-ag];exact pV _ _ _ _ _ _ T3 (by omega)
   have s4:=(M _ (show w.heap.size≠p.heap.size+1 by omega)).trans s3;have k4:=(M _ (show p.heap.size≠p.heap.size+1 by omega)).trans k3;have c4:hG I w.heap.size W.heap.size v m:=c3.keep (fun b Z T r _ _=>M b (aa b Z T _ r));have y:=R3.rL l3 (fun Z f e=>by cases e) (fun Z f e=>by cases e);have R4:PD I D ad t (fm s x):=R3.other (M D (fun e=>y.1 e.symm)) (fun b q=>M b (fun e=>y.2 (by rw[q,e])));have X4:=(M X (aa X _ _ _ X3)).trans X3;have V4:=(M W2.heap.size (by omega)).trans aH;have ah:gV I w.heap.size (.slice J K L) x.c.keys:=a7.other (PC _) (fun b c Z r _ _=>M b (aa b Z 9 _ r));have q0:=cn s4 0;have v0:=cn V4 0;have v1:=cn V4 1;have v2:=cn V4 2;have v3:=cn V4 3;have v4:=cn V4 4;have v5:=cn V4 5;simp at q0 v0 v1 v2 v3 v4 v5;have a8:w.heap.size<I.heap.size:=cA s4;have HW:=cb (cd l4 (cd k4 (cd s4 (cd c4 (cd R4 (cd X4 (cd T4 ah)))))));obtain⟨aM,ai,ab,aj,ak,al,am⟩:=c4;obtain⟨va,vn,vc,ax⟩:=ot ab;subst ax;obtain⟨a9,ba,hi,aN,aO,aP,aQ⟩:=EH;have HI:=cb (cd hi (cd aN (cd aO (cd aP aQ))));have HC:=cb (cd ai (cd ab (cd aj (cd ak (cd al (cd am ae))))))
   have bb:=cb (show∀(j:Nat) (u:Value),[Value.int IntKind.i64 x.c.kind,.slice J K L,.string x.c.val,.string x.c.word,.bool x.c.fatal,.int .i64 x.c.id][j]?=some u->(I.alloc (.cells #[.int .i64 x.c.kind,.slice J K L,.string x.c.val,.string x.c.word,.bool x.c.fatal,.int .i64 x.c.id] 36)).cell? ((⟨I.heap.size,0,none⟩:Addr).add j)=some u from World.news_of_block (cs:=#[.int .i64 x.c.kind,.slice J K L,.string x.c.val,.string x.c.word,.bool x.c.fatal,.int .i64 x.c.id]) (du I _));have HN:Hid (m.length+s.held.length<=1000000000000):=by show _<=_;omega
   have bp:m.length+1<=1000000000000:=by omega
   have bc:=cb (cd au (cd aC (cd aG (cd aJ (cd aI aL)))));clear l4 k4 s4 R4 X4 T4 ah V4 ai ab aj ak al am ae hi aN aO aP aQ au aC aG aJ aI aL;have N:∀g,(Value.slice va vn vc).ownBlock=some g->∃O,I.heap[g]?=some (.cells O 36 (0,0)):=fun g Q=>by
    rcases HC.out.2.1.2 with⟨e,_⟩|⟨g',aR,O,e,_,h6,_⟩
    .rw[e]at Q;cases Q
    .rw[e]at Q;cases Q;exact⟨O,h6⟩
   have ao:some w.heap.size≠(Value.slice va vn vc).ownBlock:=fun e=>by
    obtain⟨O,hc⟩:=N _ e.symm;rw[HW.out.2.2.1]at hc;cases hc
   have ap:=cb (cd N ao);have bu:Hid (m.length=m.length):=(show _=_ from rfl)
   gi_wp2_with (first
    |(gi_at_builtin;refine wpListIn_append_own_at _ rfl _ _ _ rfl w.heap.size 36 a9 ba 6 80 lQ HI.out.1 HI.out.2.1 HI.out.2.2.1 HI.out.2.2.2.1 HI.out.2.2.2.2 (by omega) (.slice va vn vc) m.length (gx m aM) rfl (eA HC.out.2.1 _) ⟨I.heap.size,0,none⟩ 1 1 [Value.int IntKind.i64 x.c.kind,.slice J K L,.string x.c.val,.string x.c.word,.bool x.c.fatal,.int .i64 x.c.id] rfl rfl bb.out (by simp[Value.oneCell']) (by unfold maxLen;omega) (by omega) (by simp;omega) ?_;intro v' S P l aS ay;obtain⟨ua,un,uc,bd⟩:=ot P;subst bd;have es:=(l.block w.heap.size (by simp;omega) ap.out.2).trans ((cC _ _ _ a8).trans HW.out.2.2.1);have e0:=cn es 0;have ef:=dN es;simp at e0;have HG:=cb (cd P (cd l (cd ay es)));clear P l aS ay es)
    |fail)
   obtain⟨l4,k4,s4,c4,R4,X4,T4,ah⟩:=HW.out;obtain⟨P,l,ay,es⟩:=HG.out;obtain⟨N,ao⟩:=ap.out;obtain⟨z1,z2,z3,z4,z5,z6⟩:=bc.out;obtain⟨ai,ab,aj,ak,al,am,ae⟩:=HC.out;have be:∀g,(Value.slice va vn vc).ownBlock=some g->w.heap.size<=g:=fun g Q=>by
    rcases ab.2 with⟨e,_⟩|⟨g',aR,O,e,h5,h6,_⟩
    .rw[e]at Q;cases Q
    .rw[e]at Q;cases Q;exact h5
   have Ba:Below I.heap.size I (I.alloc (.cells #[.int .i64 x.c.kind,.slice J K L,.string x.c.val,.string x.c.word,.bool x.c.fatal,.int .i64 x.c.id] 36)):=cU;have C:∀b o,I.heap[b]?=some o->b≠w.heap.size->(∀Z f,o≠ .cells Z 36 f)->(S.setCell ⟨w.heap.size,0,none⟩ (.slice ua un uc)).heap[b]?=some o:=fun b o h q az=>
    (cz S ⟨w.heap.size,0,none⟩ _ b q).trans ((l.block b (by have:=cA h;have:=Ba.size;omega) (fun e=>by
     obtain⟨O,hc⟩:=N b e.symm;rw[h]at hc;exact az _ _ (gQ hc))).trans ((Ba.block b (cA h)).trans h))
   have l5:=C _ _ l4 (by omega) (fun Z f e=>by cases e);have k5:=C _ _ k4 (by omega) (fun Z f e=>by cases e);have X5:=C X _ X4 (fun e=>by rw[e,s4]at X4;cases X4) (fun Z f e=>by cases e);have c5:hG S w.heap.size S.heap.size (.slice ua un uc) (m++[x.c]):=
    hG.snoc (W:=I.alloc (.cells #[.int .i64 x.c.kind,.slice J K L,.string x.c.val,.string x.c.word,.bool x.c.fatal,.int .i64 x.c.id] 36)) ai aj (fun i c kv bf bg=>(ak i c kv bf bg).other (PC _) (fun b c Z r _ _=>Ba.block b (cA r))) al am
     (fun g Q Z f r=>by
      obtain⟨O,hc⟩:=N g Q;rw[(Ba.block g (cA hc)),hc]at r;cases r) (ah.other (PC _) (fun b c Z r _ _=>Ba.block b (cA r))) ae l P
   have c6:hG (S.setCell ⟨w.heap.size,0,none⟩ (.slice ua un uc)) w.heap.size S.heap.size (.slice ua un uc) (m++[x.c]):=c5.keep (fun b Z T r hT _=>cz S ⟨w.heap.size,0,none⟩ _ b (fun e=>by
    rw[show b=w.heap.size from e,es]at r;cases r;rcases hT with h|h<;>cases h))
   have s6:=dh (i:=0) es (.slice ua un uc);have R5:PD (S.setCell ⟨w.heap.size,0,none⟩ (.slice ua un uc)) D ad t (fm s x):=by
    obtain⟨⟨rv,ru,hD,H,bh⟩,az⟩:=R4;have bi:=C D _ hD (fun e=>by rw[e,s4]at hD;cases hD) (fun Z f e=>by cases e);refine⟨⟨rv,ru,bi,H.other (fun b q=>?_),bh⟩,az⟩;obtain⟨⟨bv,⟨e1,e2⟩,e3⟩,an⟩:=H;rcases e2 with⟨rfl,_⟩|⟨g,aR,O,rfl,_,Q,_⟩
    .rw[q]at an;cases an
    .rw[q]at an;cases an;exact(C g _ Q (fun e=>by rw[e,s4]at Q;cases Q) (fun Z f e=>by cases e)).trans Q.symm
   have T6:iV D E w (S.setCell ⟨w.heap.size,0,none⟩ (.slice ua un uc)):=by
    have sb:Below 0 S (S.setCell ⟨w.heap.size,0,none⟩ (.slice ua un uc)):=(ct 0 S).setCell (p:=⟨w.heap.size,0,none⟩) (cG _) _;refine⟨by rw[sb.os,l.os,Ba.os,T4.os],by rw[sb.tape,l.tape,Ba.tape,T4.tape],by rw[sb.output,l.output,Ba.output,T4.output],cP T4.size (cP Ba.size (cP l.size sb.size)),fun k hk hn hh=>?_⟩;rw[cz S ⟨w.heap.size,0,none⟩ _ k (by show k≠w.heap.size;omega),l.block k (by have:=Ba.size;omega) (fun e=>by have:=be k e.symm;omega),Ba.block k (by omega),T4.block k hk hn hh]
   have bw:(S.setCell ⟨w.heap.size,0,none⟩ (.slice ua un uc)).heap.size=S.heap.size:=by simp
   generalize S.setCell ⟨w.heap.size,0,none⟩ (.slice ua un uc)=S6 at*;have bj:=cA l5;refine⟨_,_,run_endRound (P:=prog) none l5,rfl,ad,?_,?_,?_⟩
   .have y:=R5.rL l5 (fun Z f e=>by cases e) (fun Z f e=>by cases e);exact R5.other (World.putObj_heap_other (fun e=>y.1 e.symm)) (fun b q=>World.putObj_heap_other (fun e=>y.2 (by rw[q,e])))
   .exact(World.putObj_heap_other (fun e=>by rw[e,l5]at X5;cases X5)).trans X5
   .refine⟨?_,(World.putObj_heap_other (by omega)).trans k5,⟨_,(World.putObj_heap_other (by omega)).trans (s6.trans rfl),(c6.keep (fun b Z T r _ _=>World.putObj_heap_other (fun e=>by rw[e,l5]at r;cases r))).top⟩,pV _ _ _ _ _ _ T6 (by omega),F5,fm s x,?_,?_⟩
    .rw[World.putObj_heap_same bj,<-z];rfl
    .have y:=R5.rL l5 (fun Z f e=>by cases e) (fun Z f e=>by cases e);exact R5.other (World.putObj_heap_other (fun e=>y.1 e.symm)) (fun b q=>World.putObj_heap_other (fun e=>y.2 (by rw[q,e])))
    .have:=HN.out;rw[cI];show m.length+1+_<=_;omega
  case hdone=>
   rintro e W6 ⟨⟨rv,rfl⟩,q,R6,⟨aA,bk,⟨v,bl,G⟩,T6,F6,_⟩⟩;have hp:(U .ready none).pending=none:=by rw[<-z]
   obtain⟨o7,aT⟩:∃o,(Instr.endLoop (p.heap.size+1)).run prog W6= .ok none (W6.putObj (p.heap.size+1) o):=by
    have:=run_endLoop (P:=prog) aA (by rw[<-z];simp);rw[hp]at this;exact⟨_,this⟩
   refine⟨none,_,aT,?_⟩;have y:=R6.rL aA (fun Z f e=>by cases e) (fun Z f e=>by cases e);have G7:hG (W6.putObj (p.heap.size+1) o7) w.heap.size W6.heap.size v (iP d s0).1:=G.keep (fun b Z T r _ _=>World.putObj_heap_other (fun e=>by rw[e,aA]at r;cases r));have R7:PD (W6.putObj (p.heap.size+1) o7) D q t (iP d s0).2:=R6.other (World.putObj_heap_other (fun e=>y.1 e.symm)) (fun b ac=>World.putObj_heap_other (fun e=>y.2 (by rw[ac,e])));have bm:=(World.putObj_heap_other (w:=W6) (r:=p.heap.size+1) (o:=o7) (show w.heap.size≠p.heap.size+1 by omega)).trans bl;have bn:=(World.putObj_heap_other (w:=W6) (r:=p.heap.size+1) (o:=o7) (show p.heap.size≠p.heap.size+1 by omega)).trans bk
   have T7:=pV W6 (p.heap.size+1) o7 w D E T6 (by omega);generalize W6.putObj (p.heap.size+1) o7=W7 at*;have c7:=cn bm 0;simp at c7;have HG:=cb (cd G7 (cd R7 (cd T7 F6)));have aU:=cb bn;have H1:=cb au;have ax:∃a n c,v= .slice a n c:=by obtain⟨aM,_,ho,_⟩:=G7;exact ot ho
   obtain⟨va,vn,vc,rfl⟩:=ax;dsimp only
   gi_wp2;refine⟨by simp,.inl ⟨_,_,rfl,run_takeDeferred aU.out,?_⟩⟩;refine⟨_,results_tmp rfl _ _ _,.slice va vn vc,q,rfl,?_⟩;obtain⟨G,R,T,F⟩:=HG.out;have hk:=aU.out;have z1:=H1.out;have y:=R.rL hk (fun Z f e=>by cases e) (fun Z f e=>by cases e);exact⟨(G.keep (fun b Z T r _ _=>World.putObj_heap_other (fun e=>by rw[e,hk]at r;cases r))).top,R.other (World.putObj_heap_other (fun e=>y.1 e.symm)) (fun b ac=>World.putObj_heap_other (fun e=>y.2 (by rw[ac,e]))),F,pV _ _ _ _ _ _ T (by omega)⟩
end
def dT (d:Int)(t:Nat):Prop:=(d=1/\t=160)\/(d=2/\t=161)\/(d=3/\t=162)
theorem uE (D t:Nat)(d:Int)(b:dT d t):∀W hb s,PD W D hb t s->s.held.length<=140737488355328->Calls prog 121 #[.pointer (some ⟨D,0,none⟩)] W fun e w'=>rJ W w' D hb t s (fw d s.held) e:=by
 intro W hb s R a;rcases b with⟨rfl,rfl⟩|⟨rfl,rfl⟩|⟨rfl,rfl⟩
 .exact Mq D hb s W R a
 .exact Mr D hb s W R a
 .exact Ms D hb s W R a
theorem wG (s:St)(p:List UInt8):(jL s p).held.length<=s.held.length+p.length:=by
 unfold jL;split
 .omega
 .split
  .have:=wz (s.held++p);simp at this;omega
  .simp
theorem Ko (D t:Nat)(hb:Option Nat)(s:St)(a:ByteArray)(w:World)(R:PD w D hb t s)(c:2*s.held.length+a.size<=140737488355328):Calls prog 73 #[.pointer (some ⟨D,0,none⟩),.string a] w fun e w'=>e= .returned (.func (.func 120) #[] #[.pointer (some ⟨w.heap.size,0,none⟩)])/\w'.heap[w.heap.size]?=some (xT D)/\∃b,PD w' D b t (jL s a.data.toList)/\lN w hb b/\iV D hb w w':=by
 have h:Below w.heap.size w (w.alloc (xT D)):=cU;have i:=R.below h;have H:=cb (DD D t hb s a (w.alloc (xT D)) i c);have d:=cb (cd i h);go_enter func73,ntmps73;go_wp2_with fail
 refine H.out.mono ?_;rintro e n ⟨rfl,T⟩;have j:=cb T;go_wp2;go_ret;have g:=j.out.keep d.out.1 (du w (xT D)) (fun Z f e=>by cases e) (fun Z f e=>by cases e);obtain⟨⟨b,k,l⟩,m⟩:=j.out;exact⟨rfl,g,b,k,lN.trans (a:=w) (.inl rfl) l d.out.2.size,(iV.dP d.out.2).trans m (.inl rfl)⟩
theorem LH (D t:Nat)(d:Int)(hb:Option Nat)(s:St)(a:ByteArray)(w:World)(A:dT d t)(R:PD w D hb t s)(B:2*s.held.length+a.size<=1000000000000):Calls prog 44 #[.pointer (some ⟨D,0,none⟩),.string a] w fun e w'=>∃v b,e= .returned v/\hG w' w.heap.size w'.heap.size v (PU d s a.data.toList).1/\PD w' D b t (PU d s a.data.toList).2/\lN w hb b/\iV D hb w w':=by
 have H:=cb (Ko D t hb s a w R (by omega));have C:Hid (∀(j:World) (f:Option Nat),PD j D f t (jL s a.data.toList)->j.heap[w.heap.size]?=some (xT D)->Calls prog 72 #[.func (.func 120) #[] #[.pointer (some ⟨w.heap.size,0,none⟩)]] j fun e w'=>∃v b,e= .returned v/\hG w' j.heap.size w'.heap.size v (PU d s a.data.toList).1/\PD w' D b t (PU d s a.data.toList).2/\lN j f b/\iV D f j w'):=fun j f m k=>by
  have E:=wG s a.data.toList;rw[gz]at E;have F:=cb (Bi w.heap.size D t d f (jL s a.data.toList) j (uE D t d A) m k (by omega));go_enter func72,ntmps72;go_wp2_with fail
  refine F.out.mono ?_;rintro e I ⟨v,b,rfl,G⟩;have u:=cb G;go_wp2;go_ret;exact⟨v,b,rfl,u.out⟩
 go_enter func44,ntmps44;go_wp2_with fail
 refine H.out.mono ?_;rintro e j ⟨rfl,k,f,m,n,o⟩;have J:=cb (C.out j f m k);have W:=cb (cd n o);go_wp2_with fail
 refine J.out.mono ?_;rintro e I ⟨v,b,rfl,G,x,y,z⟩;have u:=cb (cd G (cd x (cd y z)));go_wp2;go_ret;have l:=o.size;refine⟨v,b,rfl,?_,x,n.trans y l,o.trans z n⟩;obtain⟨p,K,⟨L,M⟩,N,O,P,Q⟩:=G;refine⟨p,K,⟨L,?_⟩,N,fun i c S T U=>(O i c S T U).other l (fun _ _ _ _ _ _=>rfl),P,Q⟩;rcases M with h|⟨g,q,r,e,X,V⟩
 .exact .inl h
 .exact .inr ⟨g,q,r,e,by omega,V⟩
theorem KE (D t:Nat)(hb:Option Nat)(s:St)(w:World)(R:PD w D hb t s):Calls prog 46 #[.pointer (some ⟨D,0,none⟩)] w fun e w'=>e= .returned (.int .i64 (s.held.length:Int))/\∃q,w'=w.drewN q:=by
 obtain⟨⟨v,u,a,H,b⟩,c⟩:=R;obtain⟨d0,d1,d2,d3,d4,f⟩:=ou a;have d:=cb (xD D u v hb s.held w H d1 d2);go_enter func46,ntmps46;go_wp2_with (refine d.out.mono ?_;rintro e g ⟨rfl,q,rfl⟩)
 go_ret;exact⟨rfl,q,rfl⟩
def uL (d:Int):Nat:=if d=1 then 160 else if d=2 then 161 else 162
theorem MP {d:Int}(h:d=1\/d=2\/d=3):dT d (uL d):=by
 rcases h with rfl|rfl|rfl
 .exact .inl ⟨rfl,rfl⟩
 .exact .inr (.inl ⟨rfl,rfl⟩)
 .exact .inr (.inr ⟨rfl,rfl⟩)
theorem sL (d:Int)(w:World)(a:d=1\/d=2\/d=3):Calls prog 43 #[.int .i64 d] w fun e w'=>e= .returned (.tuple #[.pointer (some ⟨w.heap.size,0,none⟩),.int .i64 0])/\w'=w.alloc (BE (uL d) (.slice none 0 0) 0 false false):=by
 rcases a with rfl|rfl|rfl;all_goals
  go_wp2
  go_ret2
  exact⟨rfl,rfl⟩
variable {W l w:World}{j Y q o:Nat}{v v':Value}{cs:List iO}{d:Int}{s:St}{c:iO}{p:Option Addr}{m:List Value}
def ln (W:World)(j:Nat)(v:Value)(cs:List iO):Prop:=
 ∃m:List Value,m.length=cs.length/\W.ownsRow j 36 6 v cs.length (gx cs m)/\(∀b∈m,∃a n c,b= .slice a n c)/\∀(i:Nat) (c:iO) (b:Value),cs[i]?=some c->m[i]?=some b->gF W j b c.keys
theorem ln.nil (W:World)(j:Nat):ln W j (.slice none 0 0) []:=⟨[],rfl,dv _ _ _ _,fun _ h=>(by cases h),fun i c a h=>(by simp at h)⟩
theorem ln.keep (h:ln W j v cs)(k:∀b (Z:Array Value) (T:Nat),W.heap[b]?=some (.cells Z T (0,0))->(T=36\/T=9)->j<=b->l.heap[b]?=W.heap[b]?):ln l j v cs:=by
 obtain⟨m,q,⟨r,d⟩,s,t⟩:=h;refine⟨m,q,⟨r,?_⟩,s,fun i c u w f=>(t i c u w f).other (PC _) (fun b Z x y=>k b Z 9 x (.inr rfl) y)⟩;rcases d with d|⟨g,n,a,e,o,p,z⟩
 .exact .inl d
 .exact .inr ⟨g,n,a,e,o,(k g a 36 p (.inl rfl) o).trans p,z⟩
theorem ln.below (h:ln W j v cs)(hb:Below W.heap.size W l):ln l j v cs:=h.keep (fun b Z T a _ _=>hb.block b (cA a))
theorem ln.turn (h:ln W j v cs)(f:ie Y W l)(g:W.heap[Y]?=some (mO d s)):ln l j v cs:=
 h.keep (fun b Z T a c _=>f.block b (cA a) (fun e=>by
  rw[e,g]at a;cases a;rcases c with h|h<;>cases h))
theorem ln.snoc (u:m.length=cs.length)(z:∀k∈m,∃a n c,k= .slice a n c)(A:∀(i:Nat) (c:iO) (k:Value),cs[i]?=some c->m[i]?=some k->gF W j k c.keys)(s:∀g,v.ownBlock=some g->∀Z f,W.heap[g]?≠some (.cells Z 9 f))(B:gF W j (.slice p q o) c.keys)(C:W.grownBy l v.ownBlock)(D:l.ownsRow j 36 6 v' (cs.length+1) (gx cs m++(vT c (.slice p q o)).toList)):ln l j v' (cs++[c]):=by
 have r:∀{k:Value} {x:List ByteArray},gF W j k x->gF l j k x:=fun h=>h.other (PC _) (fun b Z y _=>C.block b (cA y) (fun e=>s b e.symm Z _ y))
 refine⟨m++[.slice p q o],by simp[u],?_,?_,?_⟩
 .rw[ue cs m c _ u,cI];exact D
 .intro k d;rcases cr.1 d with h|h
  .exact z k h
  .rw[gl]at h;exact⟨_,_,_,h⟩
 .intro i E k t d;by_cases F:i<cs.length
  .rw[cW F]at t;rw[cW (by omega)]at d;exact r (A i E k t d)
  .have w:i=cs.length:=by grind
   subst w;rw[<-u,dg (PC _)]at d;simp at t d;subst t;subst d;exact r B
theorem Ow {n:Nat}{c:List Value}(h:W.ownsRow j 36 6 v n c):∀g,v.ownBlock=some g->∀Z f,W.heap[g]?≠some (.cells Z 9 f):=by
 intro g a Z f b;obtain⟨_,⟨rfl,_⟩|⟨k,d,e,rfl,_,i,_⟩⟩:=h
 .cases a
 .cases a;rw[i]at b;cases b
def RG (w:World)(Y:Nat):Nat:=match w.cell? ⟨Y,1,none⟩with|some (.string b)=>b.size|_=>0
theorem CL (h:w.heap[Y]?=some (mO d s)):RG w Y=s.held.length:=by
 unfold RG;rw[(th h).2.1];simp only
 rw[lr]
theorem GR {g u:World}{f:List iO}(y:gF g w.heap.size (.slice p q o) c.keys)(D:iU g Y d s)(t:ie Y w g)(I:m.length=f.length)(J:g.ownsRow w.heap.size 36 6 v f.length (gx f m))(K:∀l∈m,∃a n c,l= .slice a n c)(L:∀(i:Nat) (c:iO) (l:Value),f[i]?=some c->m[i]?=some l->gF g w.heap.size l c.keys){A B:Obj}(E:((g.alloc A).alloc B).grownBy u v.ownBlock)(M:u.ownsRow w.heap.size 36 6 v' (f.length+1) (gx f m++(vT c (.slice p q o)).toList)):ln u w.heap.size v' (f++[c])/\iU u Y d s/\ie Y w u:=by
 have z:Below g.heap.size g ((g.alloc A).alloc B):=(cU).alloc (by simp) _;have F:=t.size;have r:((g.alloc A).alloc B).ownsRow w.heap.size 36 6 v f.length (gx f m):=eA (eA J _) _;have x:∀{l H},gF g w.heap.size l H->gF ((g.alloc A).alloc B) w.heap.size l H:=fun h=>h.other (PC _) (fun b Z N _=>z.block b (cA N))
 have C:=(z.block Y (cA D.at_)).trans D.at_;have O:=z.size;refine⟨ln.snoc I K (fun i c l a b=>x (L i c l a b)) (Ow r) (x y) E M,⟨(E.block Y (cA C) (fun e=>?_)).trans C,D.ok⟩,?_⟩
 .obtain⟨_,⟨rfl,_⟩|⟨P,Q,R,rfl,_,S,_⟩⟩:=r
  .cases e
  .have:Y=P:=by simpa [Value.ownBlock]using e
   rw[this,S]at C;cases C
 .have j:=(z.mono F).trans (rS r E (by omega));exact⟨j.os.trans t.os,j.tape.trans t.tape,j.output.trans t.output,cP t.size j.size,fun k y T=>(j.block k y).trans (t.block k y T)⟩
theorem Dk (Y:Nat)(d:Int)(s:St)(a:ByteArray)(w:World)(hd:d=1\/d=2\/d=3)(R:iU w Y d s)(hs:s.held.length+a.size<=1000000000000):Calls prog 108 #[.pointer (some ⟨Y,0,none⟩),.string a] w fun e w'=>∃v,e= .returned v/\ln w' w.heap.size v (PU d s a.data.toList).1/\iU w' Y d (PU d s a.data.toList).2/\ie Y w w':=by
 have HP:=cb (tn Y d s a w R hs);have HX:Hid (∀(W:World) (c:St),iU W Y d c->c.held.length<=1000000000000->Calls prog 149 #[.pointer (some ⟨Y,0,none⟩)] W fun e w'=>PX W w' Y d c e/\ie Y W w'):=fun W c i B=>xd Y d c W hd i B
 have C:(jL s a.data.toList).held.length<=1000000000000:=by
  have i:(jL s a.data.toList).held.length<=s.held.length+a.data.toList.length:=by
   unfold jL;split
   .omega
   .split
    .have:=wz (s.held++a.data.toList);show(iH (s.held++a.data.toList)).1.length<=_;simp at this⊢;omega
    .simp
  rw[kQ]at i;omega
 have N:Hid (PU d s a.data.toList=iP d (jL s a.data.toList)):=(show _=_ from rfl)
 generalize jL s a.data.toList=s0 at*;generalize PU d s a.data.toList=O at*;obtain⟨P,Q,hi,S,T,U,V⟩:=EH;have D:=cb (cd hi (cd S (cd T (cd U V))));go_enter func108,ntmps108;go_wp2_with fail
 refine HP.out.mono ?_;rintro e w1 ⟨rfl,X,Z⟩;have H1:=cb (cd X Z);go_wp2_with fail
 go_loopw [5] (fun l wr=>∃(b:List iO) (c:St) (E:Option Addr) (F H:Nat),l= .slice E F H/\Hid (b.length+c.held.length<=1000000000000)/\Hid (O=(b++(iP d c).1,(iP d c).2))/\Hid (ln wr w.heap.size (.slice E F H) b/\iU wr Y d c/\ie Y w wr)) (fun _ wr=>RG wr Y+1)
 case atStart=>exact⟨[],s0,none,0,0,rfl,by show _<=_;simpa using C,by show _=_;rw[N.out];simp,ln.nil _ _,H1.out.1,H1.out.2⟩
 case round=>
  obtain⟨b,c,E,F,H,rfl,I,HD,q⟩:=hrel;have ao:=I.out;have HC:=cb (HX.out wr c q.out.2.1 (by omega));have J:=q.out.2.2.size;cases K:fw d c.held with
  |none=>
   have x:O=(b,c):=by rw[HD.out,mw K];simp
   subst x;have y:Hid (Calls prog 149 #[.pointer (some ⟨Y,0,none⟩)] wr fun e w'=>(e= .returned (.tuple #[jM,.bool false])/\iU w' Y d c)/\ie Y wr w'):=HC.out.mono fun e w' ⟨i,B⟩=>⟨by unfold PX at i;rw[K]at i;exact i,B⟩
   go_wp2_with fail
   refine y.out.mono ?_;rintro e r ⟨⟨rfl,z⟩,g⟩;have h:Hid (ln r w.heap.size (.slice E F H) b/\iU r Y d c/\ie Y w r):=⟨q.out.1.turn g q.out.2.1.at_,z,q.out.2.2.trans g⟩
   unfold jM;go_wp2;go_ret;refine⟨_,rfl,h.out.1.below cU,⟨dI h.out.2.1.at_ _,h.out.2.1.ok⟩,h.out.2.2.alloc _⟩
  |some t=>
   have x:O=(b++[t.c]++(iP d (fm c t)).1,(iP d (fm c t)).2):=by rw[HD.out,qJ K];simp
   have A:=jc K;have aa:=cb x;have y:Hid (Calls prog 149 #[.pointer (some ⟨Y,0,none⟩)] wr fun e w'=>(∃kv,e= .returned (.tuple #[iW t.c kv,.bool true])/\gF w' wr.heap.size kv t.c.keys/\iU w' Y d (fm c t))/\ie Y wr w'):=HC.out.mono fun e w' ⟨i,B⟩=>⟨by unfold PX at i;rw[K]at i;exact i,B⟩
   have ab:=CL q.out.2.1.at_;have L:=cb (cd ab A);go_wp2_with fail
   refine y.out.mono ?_;rintro e r ⟨⟨kv,rfl,hK,z⟩,g⟩;obtain⟨p,o,ac⟩:=hK.form;subst ac;have ad:=q.out.1.turn g q.out.2.1.at_;have ae:=hK.other J (fun _ _ _ _=>rfl);obtain⟨m,af,ag,ah,ai⟩:=ad;have h:=cb (cd ae (cd z (cd (q.out.2.2.trans g) (cd af (cd ag (cd ah ai))))));have am:w.heap.size<=r.heap.size:=cP J g.size;unfold iW;have an:b.length+1<=1000000000000:=by have:=I.out;have:=L.out.2;omega
   have ap:Hid (b.length=b.length):=(show _=_ from rfl)
   have aj:=cb (show∀(j:Nat) (u:Value),[Value.int IntKind.i64 t.c.kind,.slice p t.c.keys.length o,.string t.c.val,.string t.c.word,.bool t.c.fatal,.int .i64 t.c.id][j]?=some u->((r.alloc (.cells #[.int .i64 t.c.kind,.slice p t.c.keys.length o,.string t.c.val,.string t.c.word,.bool t.c.fatal,.int .i64 t.c.id] 36)).alloc (.cells #[.int .i64 t.c.kind,.slice p t.c.keys.length o,.string t.c.val,.string t.c.word,.bool t.c.fatal,.int .i64 t.c.id] 36)).cell? ((⟨r.heap.size+1,0,none⟩:Addr).add j)=some u from World.news_of_block (cs:=#[.int .i64 t.c.kind,.slice p t.c.keys.length o,.string t.c.val,.string t.c.word,.bool t.c.fatal,.int .i64 t.c.id]) (fD (by rw[cF])));go_wp2_with (first
    |(at_builtin;refine mD _ rfl _ _ _ rfl w.heap.size 36 P Q 6 80 lQ D.out.1 D.out.2.1 D.out.2.2.1 D.out.2.2.2.1 D.out.2.2.2.2 (by omega) (.slice E F H) b.length (gx b m) rfl (eA (eA h.out.2.2.2.2.1 _) _) ⟨r.heap.size+1,0,none⟩ 1 1 [Value.int IntKind.i64 t.c.kind,.slice p t.c.keys.length o,.string t.c.val,.string t.c.word,.bool t.c.fatal,.int .i64 t.c.id] rfl rfl aj.out (by simp[Value.oneCell']) (by unfold maxLen;omega) (by omega) (by rw[cF,cF];omega) ?_;intro v' w9 k n M ak;obtain⟨ua,un,uc,al⟩:=tR k;subst al;have HG:=cb (cd k n);clear k n M ak)
    |fail)
   have f:=GR h.out.1 h.out.2.1 h.out.2.2.1 h.out.2.2.2.1 h.out.2.2.2.2.1 h.out.2.2.2.2.2.1 h.out.2.2.2.2.2.2 HG.out.2 HG.out.1;have aq:=CL f.2.1.at_;have ar:=L.out;go_roundw;case rel=>exact⟨b++[t.c],fm c t,ua,un,uc,rfl,by show _<=_;rw[cI];show b.length+1+_<=_;omega,aa,f.1,f.2.1,f.2.2⟩
   case measure=>omega
theorem yV (d:Int)(w:World)(a:d=1\/d=2\/d=3):Calls prog 106 #[.int .i64 d] w fun e w'=>e= .returned (.tuple #[.pointer (some ⟨w.heap.size,0,none⟩),.int .i64 0])/\w'=w.alloc (mO d AU):=by
 all_goals
  go_wp2
  go_ret2
  exact⟨rfl,rfl⟩
theorem zM (d:Int)(w:World)(a:d<1\/3<d):Calls prog 106 #[.int .i64 d] w fun e w'=>e= .returned (.tuple #[.pointer none,.int .i64 1])/\w'=w:=by
 rcases a with h|h
 .go_wp2;go_ret2;exact⟨rfl,rfl⟩
 .go_wp2;go_ret2;exact⟨rfl,rfl⟩
variable {w:World}{p e l n:Nat}{v:Value}{q:List Value}{P:Program}
def Row (w:World)(p e l:Nat)(v:Value)(n:Nat)(q:List Value):Prop:=
 q.length=n*l/\((v= .slice none 0 0/\n=0)\/∃g a b,v= .slice (some ⟨g,0,none⟩) n a/\p<=g/\w.heap[g]?=some (.cells b e (0,0))/\n<=a/\b.size=a*l/\b.toList.take (n*l)=q)
theorem Row.Bz (h:w.ownsRow p e l v n q):Row w p e l v n q:=by
 obtain⟨m,o|⟨g,i,j,a,b,c,d,_,f,k⟩⟩:=h
 .exact⟨m,.inl o⟩
 .exact⟨m,.inr ⟨g,i,j,a,b,c,d,f,k⟩⟩
theorem Row.nil (w:World)(p e l:Nat):Row w p e l (.slice none 0 0) 0 []:=⟨by simp,.inl ⟨rfl,rfl⟩⟩
theorem Row.lower {d:Nat}(h:Row w p e l v n q)(m:d<=p):Row w d e l v n q:=by
 obtain⟨j,k|⟨g,f,i,a,b,c⟩⟩:=h
 .exact⟨j,.inl k⟩
 .exact⟨j,.inr ⟨g,f,i,a,by omega,c⟩⟩
theorem Row.other {w':World}(h:Row w p e l v n q)(k:∀g Z,v.ownBlock=some g->w.heap[g]?=some (.cells Z e (0,0))->p<=g->w'.heap[g]?=w.heap[g]?):Row w' p e l v n q:=by
 obtain⟨i,j|⟨g,f,a,rfl,b,c,d⟩⟩:=h
 .exact⟨i,.inl j⟩
 .exact⟨i,.inr ⟨g,f,a,rfl,b,(k g a rfl c b).trans c,d⟩⟩
theorem Row.form (h:Row w p e l v n q):∃a c,v= .slice a n c:=by
 obtain⟨f,⟨rfl,rfl⟩|⟨g,b,d,rfl,_⟩⟩:=h
 .exact⟨_,_,rfl⟩
 .exact⟨_,_,rfl⟩
theorem Row.eC {g:Nat}(h:Row w p e l v n q)(d:v.ownBlock=some g):∃a,w.heap[g]?=some (.cells a e (0,0))/\p<=g/\g<w.heap.size:=by
 obtain⟨i,⟨rfl,rfl⟩|⟨j,f,a,rfl,b,c,_⟩⟩:=h
 .cases d
 .cases d;exact⟨a,c,b,cA c⟩
theorem tz (w:World)(p:Nat)(t ty e:TypeId)(i:TypeInfo)(z:Value)(l bytes:Nat)(ht:P.underlying t=some (.slice e))(hi:P.info? e=some i)(hz:i.zero=some z)(h:i.size=l)(N:i.bytes=bytes)(O:z.cells.size=l)(Q:0<l)(v:Value)(n:Nat)(q:List Value)(y:Row w p e l v n q)(a:Addr)(m c:Nat)(b:List Value)(R:b.length=m*l)(r:∀j u,b[j]?=some u->w.cell? (a.add j)=some u)(h1:∀u∈b,u.oneCell'=true)(hm:0<m)(S:n+m<=maxLen)(A:(n+m)*bytes<=140737488355328)(T:p<=w.heap.size):∃v' w',(Builtin.append_ #[t,t] ty #[v,.slice (some a) m c]).run P w= .ok v' w'/\Row w' p e l v' (n+m) (q++b)/\w.grownBy w' v.ownBlock/\(v'.ownBlock=v.ownBlock\/(∃g,v'.ownBlock=some g/\w.heap.size<=g/\w.grownBy w' none))/\∀u k B,Row w p e l u k B->(u.ownBlock=v.ownBlock->k<=n+m/\B=(q++b).take (k*l))->Row w' p e l u k B:=by
 have F:(q++b).length=(n+m)*l:=by rw[cI,y.1,R,Nat.add_mul]
 have C:∀w',w.grownBy w' none->∀u k B,Row w p e l u k B->Row w' p e l u k B:=fun w' M u k B I=>I.other (fun g Z _ hZ _=>M.block g (cA hZ) (by simp))
 rcases y.2 with⟨rfl,rfl⟩|⟨g,D,f,rfl,ac,M,an,ad,s⟩
 .have hx:=jm (by simpa using y.1);subst hx;obtain⟨v',w',U,V,d,_,ao⟩:=run_append_own_at (P:=P) w w.heap.size t ty e i z l bytes ht hi hz h N O Q (.slice none 0 0) 0 [] (dv w _ e l) a m c b R r h1 S A (PC _);refine⟨v',w',U,(Row.Bz V).lower T,d,.inr ?_,fun u k B I _=>C w' d u k B I⟩;rcases V.2 with⟨_,h0⟩|⟨g,D,f,e1,e2,_⟩
  .omega
  .subst e1;exact⟨g,rfl,e2,d⟩
 .by_cases x:n+m<=D
  .subst h;have W:n*i.size+b.length<=f.size:=by rw[R,ad,<-Nat.add_mul];exact Nat.mul_le_mul_right _ x
   have U:=run_append_room (P:=P) w t ty e i ht hi g n D f M a m c b R r h1 x W;have ak:(f.toList.take (n*i.size)++b++f.toList.drop (n*i.size+b.length)).length=f.size:=by grind
   have d:∀o,w.grownBy (w.setRow g o) (some g):=fun o=>⟨rfl,rfl,rfl,by simp,fun k _ hk=>setRow_other w g k _ (fun e=>hk (by simp[e]))⟩
   have hh:=setRow_heap w g f (List.take (n*i.size) f.toList++b++List.drop (n*i.size+b.length) f.toList).toArray e _ M;refine⟨_,_,U,⟨F,.inr ⟨g,D,_,rfl,ac,hh,x,?_,?_⟩⟩,d _,.inl rfl,?_⟩
   .simp only[ki];omega
   .rw[s,<-F];exact List.take_left
   .intro u k B I J;rcases I with⟨K,⟨rfl,rfl⟩|⟨gu,H,X,rfl,Y,E,aa,ae,af⟩⟩
    .exact⟨K,.inl ⟨rfl,rfl⟩⟩
    .by_cases ag:gu=g
     .subst ag;obtain⟨hk,ah⟩:=J rfl;rw[M]at E;cases E;refine⟨K,.inr ⟨gu,H,_,rfl,Y,hh,aa,?_,?_⟩⟩
      .simp only[ki];omega
      .rw[s,ah];have ai:k*i.size<=(q++b).length:=by grind
       rw[jn ai]
     .exact⟨K,.inr ⟨gu,H,X,rfl,Y,((d _).block gu (cA E) (by grind)).trans E,aa,ae,af⟩⟩
  .have L:∀j u,q[j]?=some u->w.cell? ((⟨g,0,none⟩:Addr).add j)=some u:=by
    intro j u hj;have ab:(⟨g,0,none⟩:Addr).add j=⟨g,j,none⟩:=by unfold Addr.add;split<;>simp_all
    have aj:j<n*l:=by grind
    rw[ab,cn M];rw[<-s,dx aj]at hj;simpa using hj
   obtain⟨v',w',U,V,d⟩:=run_append_arg_grows (P:=P) w t ty e i z l bytes ht hi hz h N O Q ⟨g,0,none⟩ n D q y.1 L a m c b R r (by omega) S A;refine⟨v',w',U,(Row.Bz V).lower T,⟨d.os,d.tape,d.output,d.size,fun k hk _=>d.block k hk (by simp)⟩,.inr ?_,fun u k B I _=>C w' d u k B I⟩;rcases V.2 with⟨_,h0⟩|⟨g',al,am,e1,e2,_⟩
   .omega
   .subst e1;exact⟨g',rfl,e2,d⟩
theorem fW {P:Program}(w:World){y:Array Oper}{rest:List Oper}{o:Oper}{a:Act}{Q:Exit->Act->World->Prop}(B:o.guard=none)(s x:Operand)(t:TypeId)(L:o.op= .call {callee:= .builtin .append,args:=#[s,x],argTypes:=#[t,t]})(p:Nat)(e:TypeId)(i:TypeInfo)(z:Value)(l bytes:Nat)(M:P.underlying t=some (.slice e))(N:P.info? e=some i)(O:i.zero=some z)(f:i.size=l)(C:i.bytes=bytes)(D:z.cells.size=l)(E:0<l)(v:Value)(n:Nat)(q:List Value)(R:a.eval s=v)(A:Row w p e l v n q)(F:Addr)(m c:Nat)(b:List Value)(S:a.eval x= .slice (some F) m c)(T:b.length=m*l)(r:∀j u,b[j]?=some u->w.cell? (F.add j)=some u)(U:∀u∈b,u.oneCell'=true)(V:0<m)(H:n+m<=maxLen)(d:(n+m)*bytes<=140737488355328)(I:p<=w.heap.size)(h:∀v' w',Row w' p e l v' (n+m) (q++b)->w.grownBy w' v.ownBlock->(v'.ownBlock=v.ownBlock\/(∃g,v'.ownBlock=some g/\w.heap.size<=g/\w.grownBy w' none))->(∀u k J,Row w p e l u k J->(u.ownBlock=v.ownBlock->k<=n+m/\J=(q++b).take (k*l))->Row w' p e l u k J)->wpList P y Q rest (a.put o.dst v') w'):wpList P y Q (o::rest) a w:=by
 refine sj B fun K W=>?_
 obtain⟨v',w',X,Y,Z,h4,h5⟩:=tz (P:=P) w p t o.type e i z l bytes M N O f C D E v n q A F m c b T r U V H d I;unfold Oper.wp execOp;simp only[L,resolve,invoke,builtin,od,oe,kj,kK,eu,iI,R,S,X]
 exact W _ _ (h v' w' Y Z h4 h5)
def marks (n:Nat)(id:Int):List Value:=(List.replicate n [Value.int .i64 0,.slice none 0 0,.string ⟨#[]⟩,.string ⟨#[]⟩,.bool false,.int .i64 id]).flatten
theorem AF (n:Nat)(id:Int):(marks n id).length=n*6:=by
 unfold marks;rw[List.length_flatten,List.map_replicate,List.sum_replicate_nat];rfl
structure xA where
 v:Value
 n:Nat
 m:ByteArray
 le:n<=3000000
structure zo where
 v:Value
 n:Nat
 id:Int
 le:n<=3000000
def mkNum (x:Int):ByteArray:=strOfNums [x % 256,x / 256 % 256,x / 65536 % 256]
theorem ET (x:Int):(mkNum x).size=3:=rfl
theorem Sl (W:World)(B:Nat)(x:Int):(convert 80 9 (.slice (some ⟨W.heap.size,0,none⟩) 3 3)).run prog ((W.setCell ⟨B,6,none⟩ (.int .i64 x)).alloc (.cells #[.int .u8 (x % 256),.int .u8 (x / 256 % 256),.int .u8 (x / 65536 % 256)] 5)).drew= .ok (.string (mkNum x)) ((W.setCell ⟨B,6,none⟩ (.int .i64 x)).alloc (.cells #[.int .u8 (x % 256),.int .u8 (x / 256 % 256),.int .u8 (x / 65536 % 256)] 5)).drew:=by
 have a:((W.setCell ⟨B,6,none⟩ (.int .i64 x)).alloc (.cells #[.int .u8 (x % 256),.int .u8 (x / 256 % 256),.int .u8 (x / 65536 % 256)] 5)).drew.heap[W.heap.size]?=some (.cells #[.int .u8 (x % 256),.int .u8 (x / 256 % 256),.int .u8 (x / 65536 % 256)] 5 (0,0)):=gC (fD (by simp));exact iY (P:=prog) _ 80 5 fg kP W.heap.size 0 3 3 [x % 256,x / 256 % 256,x / 65536 % 256] rfl (fun i c=>by
  rw[eB,cn a i];have b:i=0\/i=1\/i=2:=by omega
  rcases b with rfl|rfl|rfl<;>rfl) 9 fi
variable {W:World}{a e c n:Nat}{v:Value}{d:List Value}
structure Lo (W W':World)(lo B:Nat)(S:Nat->Prop)(l:Value):Prop where
 below:Below lo W W'
 kept:∀(b:Nat) (o:Obj),W.heap[b]?=some o->b≠B->(∀Z f,o≠ .cells Z 34 f)->(∀Z f,o= .cells Z 9 f->¬S b/\l.ownBlock≠some b)->W'.heap[b]?=some o
theorem rA {g:World}(h:Row W a e c v n d)(f:W.grownBy g v.ownBlock)(i:a<=W.heap.size):Below a W g:=
 ⟨f.os,f.tape,f.output,f.size,fun b k=>f.block b (by omega) (fun e=>by obtain⟨_,_,j,_⟩:=h.eC e.symm;omega)⟩
theorem jA {b T:Nat}{Z:Array Value}{f:Nat×Nat}(h:Row W a e c v n d)(hb:W.heap[b]?=some (.cells Z T f))(i:T≠e):some b≠v.ownBlock:=fun j=>by
 obtain⟨k,g,_⟩:=h.eC j.symm
 rw[hb]at g
 cases g
 exact i rfl
variable {w:World}{m:Nat}{l:List (Nat×Value)}
def so (w:World)(m:Nat)(l:List (Nat×Value)):Prop:=∃b a,w.heap[m]?=some (.map b a)/\b.toList.map (fun e=>(e.key,e.val))=l.map (fun p=>(Value.int .u16 (p.1:Int),p.2))
theorem so.other {w':World}(h:so w m l)(k:w'.heap[m]?=w.heap[m]?):so w' m l:=by
 obtain⟨b,a,c,d⟩:=h;exact⟨b,a,k.trans c,d⟩
theorem so.lt (h:so w m l):m<w.heap.size:=by
 obtain⟨c,a,b,d⟩:=h;exact cA b
theorem An (k:Nat):∀(a:List MapEntry) (l:List (Nat×Value)) (i:Nat),a.map (fun e=>(e.key,e.val))=l.map (fun p=>(Value.int .u16 (p.1:Int),p.2))->(∀p∈l,p.1≠k)->Instr.findNow (.int .u16) (.int .u16 (k:Int)) a i=some none:=by
 intro a;induction a with
 |nil=>intro l i _ _;rfl
 |cons e a c=>
  intro l i h b;cases l with
  |nil=>simp at h
  |cons p l=>
   simp only[eu,pw]at h;obtain⟨d,f⟩:=h;have n:=b p (by simp);have g:e.key= .int .u16 (p.1:Int):=congrArg Prod.fst d;have j:Instr.sameNow (.int .u16) (.int .u16 (k:Int)) e.key=some false:=by
    rw[g];have:((k:Int)==(p.1:Int))=false:=by simp;omega
    simp[Instr.sameNow,this]
   unfold Instr.findNow;rw[j];exact c l (i+1) f (fun q m=>b q (by simp[m]))
theorem GV (k:Nat):∀(a:List MapEntry) (l:List (Nat×Value)) (i:Nat),a.map (fun e=>(e.key,e.val))=l.map (fun p=>(Value.int .u16 (p.1:Int),p.2))->(∃p∈l,p.1=k)->∃j p,p∈l/\p.1=k/\Instr.findNow (.int .u16) (.int .u16 (k:Int)) a i=some (some (j,p.2)):=by
 intro a;induction a with
 |nil=>intro l i h d;cases l with
  |nil=>obtain⟨p,c,_⟩:=d;cases c
  |cons p l=>simp at h
 |cons e a s=>
  intro l i h d;cases l with
  |nil=>simp at h
  |cons p l=>
   simp only[eu,pw]at h;obtain⟨o,t⟩:=h;have r:e.key= .int .u16 (p.1:Int):=congrArg Prod.fst o;have u:e.val=p.2:=congrArg Prod.snd o;by_cases c:p.1=k
   .refine⟨i,p,by simp,c,?_⟩;have f:Instr.sameNow (.int .u16) (.int .u16 (k:Int)) e.key=some true:=by
     rw[r,c];simp[Instr.sameNow]
    unfold Instr.findNow;rw[f,u]
   .have f:Instr.sameNow (.int .u16) (.int .u16 (k:Int)) e.key=some false:=by
     rw[r];have:((k:Int)==(p.1:Int))=false:=by simp;omega
     simp[Instr.sameNow,this]
    obtain⟨q,x,g⟩:=d;have m:q∈l:=by grind
    obtain⟨j,v,n,b,w⟩:=s l (i+1) t ⟨q,m,g⟩;refine⟨j,v,by simp[n],b,?_⟩;unfold Instr.findNow;rw[f];exact w
def Gg:Value:= .agg #[.pointer none,.pointer none,.int .i64 0]
section
variable (w:World)(m k:Nat)(l:List (Nat×Value))
theorem uq (h:so w m l)(b:∀p∈l,p.1≠k):(Instr.lookup 141 (.map (some m)) (.int .u16 (k:Int)) true).run prog w= .ok (.tuple #[Gg,.bool false]) w:=by
 obtain⟨c,a,d,e⟩:=h;have f:=An k c.toList l 0 e b;simp[Instr.lookup,run_underlying underlying141,MapKept.run_getObj_map d,MapKept.run_checkKey underlying140 (show MapKept.IsKey (.int .u16) (.int .u16 (k:Int))from rfl),MapKept.run_findKey underlying140 f,Result.andThen];rfl
theorem qv (h:so w m l)(c:∃p∈l,p.1=k):∃p,p∈l/\p.1=k/\(Instr.lookup 141 (.map (some m)) (.int .u16 (k:Int)) true).run prog w= .ok (.tuple #[p.2,.bool true]) w:=by
 obtain⟨d,a,e,f⟩:=h;obtain⟨j,p,g,b,i⟩:=GV k d.toList l 0 f c;refine⟨p,g,b,?_⟩;simp[Instr.lookup,run_underlying underlying141,MapKept.run_getObj_map e,MapKept.run_checkKey underlying140 (show MapKept.IsKey (.int .u16) (.int .u16 (k:Int))from rfl),MapKept.run_findKey underlying140 i,Result.andThen]
end
def zT (a:Bool)(b m:Nat)(c:Value)(d:Int)(e f:Bool)(g h:Value):Obj:= .cells #[.bool a,.int .u16 (b:Int),.map (some m),c,.int .i64 d,.bool e,.bool f,g,h] 143 (0,0)
theorem tT {w:World}{S:Nat}{a:Bool}{b m:Nat}{e:Value}{f:Int}{g i:Bool}{c d:Value}(h:w.heap[S]?=some (zT a b m e f g i c d)):w.cell? ⟨S,0,none⟩=some (.bool a)/\w.cell? ⟨S,1,none⟩=some (.int .u16 (b:Int))/\w.cell? ⟨S,2,none⟩=some (.map (some m))/\w.cell? ⟨S,7,none⟩=some c/\w.cell? ⟨S,8,none⟩=some d/\∀j,w.frozen? ⟨S,j,none⟩=false:=
 ⟨cn h 0,cn h 1,cn h 2,cn h 7,cn h 8,dN h⟩
theorem NV (n:Nat):IntKind.u16.wrap ((n:Int)+1)=(((n+1) % 65536:Nat):Int):=by
 have h:IntKind.u16.wrap ((n:Int)+1)=((n:Int)+1) % 65536:=by simp[IntKind.wrap,IntKind.bits,IntKind.signed]
 omega
def gS (C q:Nat)(i:Int):Value:= .agg #[.pointer (some ⟨C,0,none⟩),.pointer (some ⟨q,0,none⟩),.int .i64 i]
theorem Ez (S a m d:Nat)(D:Bool)(E:Value)(F:Int)(H I:Bool)(J K:Value)(l:List (Nat×Value))(w:World)(U:w.heap[S]?=some (zT D a m E F H I J K))(L:a<65536)(s:so w m l)(Z:∀p∈l,∃C q i,p.2=gS C q i)(hk:∀p∈l,p.1≠(a+d) % 65536)(hy:∀j,j<d->∃p∈l,p.1=(a+j) % 65536):Calls prog 160 #[.pointer (some ⟨S,0,none⟩)] w fun e w'=>e= .returned (.int .u16 (((a+d) % 65536:Nat):Int))/\w'.heap[S]?=some (zT D ((a+d+1) % 65536) m E F H I J K)/\eH [S] w w':=by
 have M:m≠S:=fun e=>by
  obtain⟨es,N,V,_⟩:=s;rw[e,U]at V;cases V
 have h:=cb (cd U (cd s (cd hk (cd M (cd Z (cd hy L))))));have h0:(a+0) % 65536=a:=by omega
 go_enter func160,ntmps160;go_wp2_with fail
 go_loopw [3,4,5] (fun _ _ _ wr=>∃j:Nat,j<=d/\wr.heap.size=w.heap.size+j/\Hid (wr.heap[S]?=some (zT D ((a+j) % 65536) m E F H I J K)/\eH [S] w wr)) (fun _ _ _ wr=>w.heap.size+d-wr.heap.size)
 case atStart=>exact⟨0,cG _,rfl,by rw[h0];exact h.out.1,eH.refl _ _⟩
 case round=>
  obtain⟨j,hj,aa,B⟩:=hrel;obtain⟨c0,c1,c2,c7,c8,cf⟩:=tT B.out.1;have ab:=cf 1;have O:=NV ((a+j) % 65536);have t:=dh (i:=1) B.out.1 (.int .u16 (((((a+j) % 65536)+1) % 65536:Nat):Int));have u:so (wr.setCell ⟨S,1,none⟩ (.int .u16 (((((a+j) % 65536)+1) % 65536:Nat):Int))) m l:=(h.out.2.1.other (B.out.2.block m h.out.2.1.lt (by simpa using h.out.2.2.2.1))).other (cz wr ⟨S,1,none⟩ _ m h.out.2.2.2.1);have W:=B.out.2.set (p:=⟨S,1,none⟩) (.inl (by simp)) (.int .u16 (((((a+j) % 65536)+1) % 65536:Nat):Int));have v:(wr.setCell ⟨S,1,none⟩ (.int .u16 (((((a+j) % 65536)+1) % 65536:Nat):Int))).heap.size=wr.heap.size:=by simp
  have he:((a+j) % 65536+1) % 65536=(a+(j+1)) % 65536:=by omega
  rw[he]at O t u W v;have r:=cb (cd t (cd u W));obtain⟨f,k⟩:∃f,(a+(j+1)) % 65536=f:=⟨_,rfl⟩
  obtain⟨id,hid⟩:∃id,(a+j) % 65536=id:=⟨_,rfl⟩
  rw[k]at O v r;rw[hid]at c1 O;have g:=cb (cd hid k);go_upto_region 3 with fail
  have e2:=(tT r.out.1).2.2.1;have X:=cA r.out.1;generalize wr.setCell ⟨S,1,none⟩ (.int .u16 (f:Int))=n at*;by_cases x:j=d
  .have c:=uq n m id l r.out.2.1 (fun p P=>by rw[<-g.out.1,x];exact h.out.2.2.1 p P);unfold Gg at c;go_wp2;go_ret;have y:∀o,Below n.heap.size n (n.alloc o):=fun o=>(ct _ _).alloc (PC _) o
   obtain⟨z,q2,Q⟩:=r.out;obtain⟨R,Y⟩:=g.out;rw[x]at R;have r3:(a+d+1) % 65536=f:=by omega
   rw[R,r3];exact⟨rfl,((y _).block S (cA z)).trans z,Q.trans (eH.dP (M:=[]) (y _)) (fun b s=>by cases s)⟩
  .have A:j<d:=by omega
   obtain⟨p,P,ac,c⟩:=qv n m id l r.out.2.1 (by rw[<-g.out.1];exact h.out.2.2.2.2.2.1 j A);obtain⟨pC,pq,pi,T⟩:=h.out.2.2.2.2.1 p P;rw[T]at c;unfold gS at c;go_wp2;have y:∀o,Below n.heap.size n (n.alloc o):=fun o=>(ct _ _).alloc (PC _) o
   obtain⟨z,q2,Q⟩:=r.out;obtain⟨R,Y⟩:=g.out;refine⟨⟨j+1,by omega,by rw[cF];omega,?_,Q.trans (eH.dP (M:=[]) (y _)) (fun b s=>by cases s)⟩,?_⟩
   .rw[Y];exact((y _).block S (cA z)).trans z
   .rw[cF];omega
theorem xu (C q j B K i:Nat)(k:Int)(c Y g:ByteArray)(Z:Bool)(id:Int)(n:Int)(fa re:Bool)(yv vv:Value)(w:World)(p:w.heap[q]?=some (sx k (.slice (some ⟨j,0,none⟩) B K) c Y Z id n fa re yv vv))(hi:i<B)(aa:B<=K)(ab:B<=1000000)(l:w.cell? ⟨j,i,none⟩=some (.string g)):Calls prog 162 #[gS C q i] w fun e w'=>∃L,w.heap.size<=L/\e= .returned (.agg #[.int .i64 k,.slice (some ⟨L,0,none⟩) 1 1,.string c,.string ⟨#[]⟩,.bool false,.int .i64 0])/\w'.heap[L]?=some (.cells #[.string g] 9 (0,0))/\Below w.heap.size w w':=by
 unfold sx at p;have q0:=cn p 0;have q1:=cn p 1;have q2:=cn p 2;have q3:=cn p 3;have q4:=cn p 4;have q5:=cn p 5;simp at q0 q1 q2 q3 q4 q5;have M:=cA p;have F:j<w.heap.size:=ey w ⟨j,i,none⟩ l;have N:¬q=w.heap.size:=by omega
 have H:¬j=w.heap.size:=by omega
 clear p;unfold gS;go_enter func162,ntmps162;have P:¬q=w.heap.size+1:=by omega
 obtain⟨h,t⟩:∃O,O=Obj.cells #[.pointer (some ⟨C,0,none⟩),.pointer (some ⟨q,0,none⟩),.int .i64 (i:Int)] 222:=⟨_,rfl⟩
 obtain⟨o,u⟩:∃O,O=Obj.cells #[.int .i64 0,.slice none 0 0,.string ⟨#[]⟩,.string ⟨#[]⟩,.bool false,.int .i64 0] 36:=⟨_,rfl⟩
 obtain⟨I,v⟩:∃O,O=Obj.cells #[.int .i64 k,.slice (some ⟨j,0,none⟩) B K,.string c,.string Y,.bool Z,.int .i64 id] 36:=⟨_,rfl⟩
 have x:Below w.heap.size w (w.alloc h):=cU;have r:Below (w.alloc h).heap.size (w.alloc h) ((w.alloc h).alloc o):=cU;have m:Below ((w.alloc h).alloc o).heap.size ((w.alloc h).alloc o) (((w.alloc h).alloc o).alloc I):=cU;have Q:(w.alloc h).heap.size=w.heap.size+1:=cF _ _;have R:((w.alloc h).alloc o).heap.size=w.heap.size+1+1:=by rw[cF,Q]
 have n1:=du w h;have S:=du (w.alloc h) o;have D:=du ((w.alloc h).alloc o) I;rw[Q]at S;rw[R]at D;have T:=(m.block _ (by omega)).trans ((r.block _ (by omega)).trans n1);have d:=(m.block _ (by omega)).trans S;have J:=(m.cell (p:=⟨j,i,none⟩) (by show j<_;omega)).trans ((r.cell (p:=⟨j,i,none⟩) (by show j<_;omega)).trans ((x.cell (p:=⟨j,i,none⟩) F).trans l));have f:Below w.heap.size w (((w.alloc h).alloc o).alloc I):=(x.trans (r.mono (by omega))).trans (m.mono (by omega));have y:(((w.alloc h).alloc o).alloc I).heap.size=w.heap.size+1+1+1:=by rw[cF,R]
 go_upto_region 2 with fail
 rw[<-t,<-u,<-v];generalize ((w.alloc h).alloc o).alloc I=a at*;rw[t]at T;rw[u]at d;rw[v]at D;have a2:a.cell? ⟨w.heap.size,2,none⟩=some (.int .i64 (i:Int)):=cn T 2;have b0:a.cell? ⟨w.heap.size+1+1,0,none⟩=some (.int .i64 k):=cn D 0;have b1:a.cell? ⟨w.heap.size+1+1,1,none⟩=some (.slice (some ⟨j,0,none⟩) B K):=cn D 1;have b2:a.cell? ⟨w.heap.size+1+1,2,none⟩=some (.string c):=cn D 2;have U:a.cell? ⟨j,i,none⟩=some (.string g):=J;have V:Hid (Below w.heap.size w a/\a.heap.size=w.heap.size+1+1+1/\a.heap[w.heap.size+1]?=some (.cells #[.int .i64 0,.slice none 0 0,.string ⟨#[]⟩,.string ⟨#[]⟩,.bool false,.int .i64 0] 36 (0,0))):=⟨f,y,d⟩
 have r0:a.cell? ⟨w.heap.size+1,0,none⟩=some (.int .i64 0):=cn d 0;have r1:a.cell? ⟨w.heap.size+1,1,none⟩=some (.slice none 0 0):=cn d 1;have r2:a.cell? ⟨w.heap.size+1,2,none⟩=some (.string ⟨#[]⟩):=cn d 2;have r3:a.cell? ⟨w.heap.size+1,3,none⟩=some (.string ⟨#[]⟩):=cn d 3;have r4:a.cell? ⟨w.heap.size+1,4,none⟩=some (.bool false):=cn d 4;have r5:a.cell? ⟨w.heap.size+1,5,none⟩=some (.int .i64 0):=cn d 5;have f0:a.frozen? ⟨w.heap.size+1,0,none⟩=false:=dN d 0;have f1:a.frozen? ⟨w.heap.size+1,1,none⟩=false:=dN d 1;have f2:a.frozen? ⟨w.heap.size+1,2,none⟩=false:=dN d 2;have f3:a.frozen? ⟨w.heap.size+1,3,none⟩=false:=dN d 3;have f4:a.frozen? ⟨w.heap.size+1,4,none⟩=false:=dN d 4
 have f5:a.frozen? ⟨w.heap.size+1,5,none⟩=false:=dN d 5;have l2:w.heap.size+1<a.heap.size:=by omega
 have l3:w.heap.size+1+1<a.heap.size:=by omega
 clear t u v x r m Q R n1 S D T d J f y q0 q1 q2 q3 q4 q5 M F N H P l;go_region
 obtain⟨f,y,d⟩:=V.out;have W:=dh (i:=5) (dh (i:=4) (dh (i:=3) (dh (i:=2) (dh (i:=1) (dh (i:=0) d (.int .i64 k)) (.slice (some ⟨a.heap.size,0,none⟩) 1 1)) (.string c)) (.string ⟨#[]⟩)) (.bool false)) (.int .i64 0);have c1:eH [w.heap.size+1] a ((((((a.setCell ⟨w.heap.size+1,0,none⟩ (.int .i64 k)).setCell ⟨w.heap.size+1,1,none⟩ (.slice (some ⟨a.heap.size,0,none⟩) 1 1)).setCell ⟨w.heap.size+1,2,none⟩ (.string c)).setCell ⟨w.heap.size+1,3,none⟩ (.string ⟨#[]⟩)).setCell ⟨w.heap.size+1,4,none⟩ (.bool false)).setCell ⟨w.heap.size+1,5,none⟩ (.int .i64 0)):=((((((eH.refl _ a).set (.inl (by simp)) _).set (.inl (by simp)) _).set (.inl (by simp)) _).set (.inl (by simp)) _).set (.inl (by simp)) _).set (.inl (by simp)) _
 have z1:((((((a.setCell ⟨w.heap.size+1,0,none⟩ (.int .i64 k)).setCell ⟨w.heap.size+1,1,none⟩ (.slice (some ⟨a.heap.size,0,none⟩) 1 1)).setCell ⟨w.heap.size+1,2,none⟩ (.string c)).setCell ⟨w.heap.size+1,3,none⟩ (.string ⟨#[]⟩)).setCell ⟨w.heap.size+1,4,none⟩ (.bool false)).setCell ⟨w.heap.size+1,5,none⟩ (.int .i64 0)).heap.size=a.heap.size:=by simp
 generalize (((((a.setCell ⟨w.heap.size+1,0,none⟩ (.int .i64 k)).setCell ⟨w.heap.size+1,1,none⟩ (.slice (some ⟨a.heap.size,0,none⟩) 1 1)).setCell ⟨w.heap.size+1,2,none⟩ (.string c)).setCell ⟨w.heap.size+1,3,none⟩ (.string ⟨#[]⟩)).setCell ⟨w.heap.size+1,4,none⟩ (.bool false)).setCell ⟨w.heap.size+1,5,none⟩ (.int .i64 0)=E at*;have z:Below E.heap.size E (E.alloc (.cells #[.string g] 9)):=cU;have A:=(z.block _ (cA W)).trans W;have X:=du E (.cells #[.string g] 9);rw[z1]at X;have t0:=cn A 0;have t1:=cn A 1;have t2:=cn A 2;have t3:=cn A 3;have t4:=cn A 4;have t5:=cn A 5;simp at t0 t1 t2 t3 t4 t5;have s:eH [w.heap.size+1] a (E.alloc (.cells #[.string g] 9)):=c1.trans (eH.dP (M:=[]) z) (fun b hm=>by cases hm)
 have HF:=cb (cd X s);generalize E.alloc (.cells #[.string g] 9)=W6 at*;clear W c1 z1 z A X s a2 b0 b1 b2 U r0 r1 r2 r3 r4 r5 f0 f1 f2 f3 f4 f5;go_wp2;refine cE (v:= .agg #[.int .i64 k,.slice (some ⟨a.heap.size,0,none⟩) 1 1,.string c,.string ⟨#[]⟩,.bool false,.int .i64 0]) (by simp[results,results162,go_sem,t0,t1,t2,t3,t4,t5]) rfl ⟨a.heap.size,by omega,rfl,HF.out.1,?_⟩;have s:=HF.out.2;exact⟨s.os.trans f.os,s.tape.trans f.tape,s.output.trans f.output,cP f.size s.size,fun b hb=>(s.block b (by omega) (by simp;omega)).trans (f.block b hb)⟩
variable {w:World}{v:Value}{d:List UInt8}
theorem xw (w:World)(v:Value)(n:Nat)(k:List Value)(h:TypeId)(a:World.ownsRowF w 0 5 1 v n k)(s:ByteArray)(hb:n+s.size<=140737488355328):∃v' w',(Builtin.append_ #[80,9] h #[v,.string s]).run prog w= .ok v' w'/\World.ownsRowF w' 0 5 1 v' (n+s.size) (k++Lib.strCells s)/\w.grownBy w' v.ownBlock/\(v'.ownBlock=v.ownBlock\/v'.ownBlock=some w.heap.size)/\(v= .slice none 0 0->s.size=0->v'= .slice none 0 0):=by
 obtain⟨l,m,d,i,j⟩:=FV;obtain⟨v',w',b,r,t,q⟩:=Lib.run_append_own_stringF (P:=prog) w 0 80 9 h 5 l fg fi m d i j v n k a s (by unfold maxLen;omega) hb (cG _);refine⟨v',w',b,r,t,?_,fun u x=>q.2 ⟨u,x⟩⟩;have c:=fun g (o:v.ownBlock=some g)=>a.cells o
 obtain⟨H,⟨rfl,rfl⟩|⟨g,e,p,y,rfl,z,o,A,B,C,D,E⟩⟩:=a
 .by_cases F:s.size=0
  .left;rw[q.2 ⟨rfl,F⟩]
  .right;rw[run_append_nil_string (P:=prog) w 80 9 h 5 l _ fg fi m d s (by omega) (by omega) (by grind)]at b;simp only[lp]at b;rw[<-b.1];rfl
 .by_cases f:n+s.size<=e
  .left;rw[Lib.run_append_room_stringF (P:=prog) w 80 9 h 5 l fg fi m i g n e p y o (by omega) s f (by omega)]at b;simp only[lp]at b;rw[<-b.1];rfl
  .right;rw[Lib.run_append_grow_string (P:=prog) w 80 9 h 5 l _ fg fi m d ⟨g,0,none⟩ n e k (by simp_all) (c g rfl) s (by omega) (by omega) (by rw[j];exact growslice_fits (by omega) (by omega))]at b;simp only[lp]at b;rw[<-b.1];rfl
theorem uM (w:World){b:Array Oper}{rest:List Oper}{o:Oper}{a:Act}{Q:Exit->Act->World->Prop}(d:o.guard=none)(f x:Operand)(g:o.op= .call {callee:= .builtin .append,args:=#[f,x],argTypes:=#[80,9]})(v:Value)(n:Nat)(e:List Value)(i:a.eval f=v)(c:World.ownsRowF w 0 5 1 v n e)(s:ByteArray)(j:a.eval x= .string s)(hb:n+s.size<=140737488355328)(h:∀v' w',World.ownsRowF w' 0 5 1 v' (n+s.size) (e++Lib.strCells s)->w.grownBy w' v.ownBlock->(v'.ownBlock=v.ownBlock\/v'.ownBlock=some w.heap.size)->(v= .slice none 0 0->s.size=0->v'= .slice none 0 0)->wpList prog b Q rest (a.put o.dst v') w'):wpList prog b Q (o::rest) a w:=by
 refine sj d fun K k=>?_
 obtain⟨v',w',l,m,p,q,r⟩:=xw w v n e o.type c s hb;unfold Oper.wp execOp;simp only[g,resolve,invoke,builtin,od,oe,kj,kK,eu,iI,i,j,l]
 exact k _ _ (h v' w' m p q r)
def ix (w:World)(v:Value)(d:List UInt8):Prop:=World.ownsRowF w 0 5 1 v d.length (Lib.byteCells d)/\(d=[]->v= .slice none 0 0)
theorem ix.nil (w:World):ix w (.slice none 0 0) []:=⟨World.ownsRowF_nil _ _ _ _,fun _=>rfl⟩
theorem ix.form (h:ix w v d):∃a c,v= .slice a d.length c:=by
 rcases h.1.2 with⟨h,b⟩|⟨g,e,f,i,h,_⟩
 .exact⟨none,0,by rw[h,b]⟩
 .exact⟨_,_,h⟩
theorem ix.eC (h:ix w v d){g:Nat}(c:v.ownBlock=some g):∃a b,w.heap[g]?=some (.cells a 5 b):=by
 rcases h.1.2 with⟨rfl,_⟩|⟨i,e,a,b,rfl,_,f,_⟩
 .cases c
 .cases c;exact⟨a,b,f⟩
theorem ix.other {w':World}(h:ix w v d)(k:∀g,v.ownBlock=some g->w'.heap[g]?=w.heap[g]?):ix w' v d:=by
 obtain⟨⟨c,f|⟨g,a,b,i,rfl,j,l,m⟩⟩,e⟩:=h
 .exact⟨⟨c,.inl f⟩,e⟩
 .exact⟨⟨c,.inr ⟨g,a,b,i,rfl,j,(k g rfl).trans l,m⟩⟩,e⟩
def Nh (Z:Array Value)(b o:Nat)(v:Value):Array Value:=(Z.setIfInBounds o (.pointer (some ⟨b,o,none⟩))).setIfInBounds (o+1) v
section
variable (b o T n:Nat)(Z:Array Value)
theorem Gr (w:World)(hb:w.heap[b]?=some (.cells Z T (0,0)))(c:Z.size=n)(d:o<n)(a:liesAt prog prog.depth T (n / prog.cellsOf T) o 123 1=true)(h0:Z[o]?=some (.pointer none)\/Z[o]?=some (.pointer (some ⟨b,o,none⟩))):Calls prog 159 #[.pointer (some ⟨b,o,none⟩)] w fun e w'=>e= .returned (.tuple #[])/\w'.heap[b]?=some (.cells (Z.setIfInBounds o (.pointer (some ⟨b,o,none⟩))) T (0,0))/\eH [b] w w'/\w'.heap.size=w.heap.size:=by
 rcases h0 with h0|h0
 .refine(xl b o T n Z w hb c d a h0).mono ?_;rintro e w' ⟨rfl,rfl⟩;exact⟨rfl,dh hb _,(eH.refl [b] w).set (p:=⟨b,o,none⟩) (.inl (by simp)) _,by simp⟩
 .refine(xQ b o w ((cn hb o).trans h0)).mono ?_;rintro e w' ⟨rfl,rfl⟩;refine⟨rfl,?_,eH.refl _ _,rfl⟩;rw[hb];have:Z.setIfInBounds o (.pointer (some ⟨b,o,none⟩))=Z:=by grind
  rw[this]
theorem Ac (v:Value)(d:List UInt8)(s:ByteArray)(w:World)(hb:w.heap[b]?=some (.cells Z T (0,0)))(O:Z.size=n)(V:o+1<n)(l:liesAt prog prog.depth T (n / prog.cellsOf T) o 123 1=true)(F:T≠5)(P:Z[o]?=some (.pointer none)\/Z[o]?=some (.pointer (some ⟨b,o,none⟩)))(W:Z[o+1]?=some v)(H:ix w v d)(q:d.length+s.size<=140737488355328):Calls prog 128 #[.pointer (some ⟨b,o,none⟩),.string s] w fun e w'=>(∃v,e= .returned v)/\∃v',w'.heap[b]?=some (.cells (Nh Z b o v') T (0,0))/\ix w' v' (d++s.data.toList)/\eH (b::v.ownBlock.toList) w w'/\(v'.ownBlock=v.ownBlock\/∃g,v'.ownBlock=some g/\w.heap.size<=g):=by
 have Q:=cb (Gr b o T n Z w hb O (by omega) l P);have B:v.ownBlock≠some b:=fun e=>by
  obtain⟨r,I,m⟩:=H.eC e;rw[hb]at m;cases m;exact F rfl
 have C:=cb (cd H B);have D:(Z.setIfInBounds o (.pointer (some ⟨b,o,none⟩)))[o+1]?=some v:=by grind
 have J:=cb D;have R:=q;go_enter func128,ntmps128;go_wp2_with fail
 refine Q.out.mono ?_;rintro e X ⟨rfl,i,z,t⟩;have d0:=(cn i (o+1)).trans J.out;have p:=C.out.1.other (fun g u=>by
  obtain⟨r,I,m⟩:=C.out.1.eC u;exact z.block g (cA m) (by grind))
 obtain⟨K,L,S⟩:=p.form;subst S;have E:=cA i;have A:=cb (cd i (cd z (cd t p)));go_wp2_with (first
  |(refine uM _ rfl _ _ rfl (.slice K d.length L) d.length (Lib.byteCells d) rfl A.out.2.2.2.1 s rfl R ?_;intro v' M k a j x;have f:ix M v' (d++s.data.toList):=(by refine⟨?_,fun h=>x (A.out.2.2.2.2 (List.append_eq_nil_iff.1 h).1) (by rw[<-gz,(List.append_eq_nil_iff.1 h).2];rfl)⟩;rw[cI,gz];rw[show Lib.byteCells (d++s.data.toList)=Lib.byteCells d++Lib.strCells s from by simp[Lib.byteCells,Lib.strCells]];exact k);obtain⟨Y,wc,y⟩:=f.form;rw[cI,gz]at y;subst y;have c:=(a.block b E (fun e=>C.out.2 e.symm)).trans A.out.1;have d2:=(cn c (o+1)).trans J.out;have f2:=dN c (o+1);have N:=cA c;have U:=cb (cd c (cd f (cd a j)));clear c f a j k x)
  |fail)
 go_ret2;obtain⟨i,z,t,p⟩:=A.out;obtain⟨c,f,a,j⟩:=U.out;refine⟨⟨_,rfl⟩,_,dh c _,f.other (fun g u=>cz M ⟨b,o+1,none⟩ _ g (fun e=>?_)),?_,?_⟩
 .obtain⟨r,I,m⟩:=f.eC u;rw[show g=b from e,c]at m;cases m;exact F rfl
 .refine eH.set ?_ (.inl (by simp)) _;refine(z.more (M':=b::(Value.slice K d.length L).ownBlock.toList) (by simp)).grown a (fun g u=> .inl ?_);rw[u];simp
 .rcases j with h|h
  .exact .inl h
  .exact .inr ⟨_,h,by omega⟩
end
theorem GZ {w:World}{g n a:Nat}{k:List Value}(h:World.ownsRowF w 0 5 1 (.slice (some ⟨g,0,none⟩) n a) n k):World.ownsRowF (w.freeze ⟨g,0,none⟩ n) 0 5 1 (.slice (some ⟨g,0,none⟩) n a) n k:=by
 unfold World.freeze;split
 .exact h
 .refine⟨h.1,?_⟩;rcases h.2 with⟨d,_⟩|⟨s,l,e,p,d,f,q,r,b⟩
  .cases d
  .injection d with i _ c;injection i with i;injection i with j _ _;subst j;subst c;obtain⟨m,o⟩:=p;refine .inr ⟨g,_,e,(if m==o then(0,0+n)else(min m 0,max o (0+n))),rfl,f,?_,?_,b⟩
   .simp[Array.getElem?_modify,q]
   .split<;>simp<;>omega
theorem Ed (w:World)(g n:Nat):eH [g] w (w.freeze ⟨g,0,none⟩ n):=by
 unfold World.freeze;split
 .exact eH.refl _ _
 .refine⟨rfl,rfl,rfl,by simp,fun k b a=>?_⟩;simp only[oA]
  rw[cD (fun e=>a (by simp[<-e]))]
theorem xS (b o:Nat)(w:World)(f:w.cell? ⟨b,o+1,none⟩=some (.slice none 0 0)):Calls prog 57 #[.pointer (some ⟨b,o,none⟩)] w fun e w'=>e= .returned (.string ⟨#[]⟩)/\Below w.heap.size w w':=by
 have c:∀(W:World) (q:Option Addr),(Builtin.unsafeString_ #[173,3] 9 #[.pointer q,.int .i64 0]).run prog W= .ok (.string .empty) W:=fun W q=>Lib.run_unsafeString_none W _ _ _ q
 have d:(Builtin.unsafeSliceData_ #[80] 173 #[.slice none 0 0]).run prog w.drew= .ok (.pointer none) w.drew:=rfl;have a:prog.follows .mixedOrders=true:=by kernel_rfl
 go_wp2;go_region_o
 all_goals(go_wp2;go_ret;exact⟨rfl,dV (ct _ w)⟩)
theorem xm (b o g c:Nat)(l:List UInt8)(w:World)(C:w.cell? ⟨b,o+1,none⟩=some (.slice (some ⟨g,0,none⟩) l.length c))(q:l≠[])(d:World.ownsRowF w 0 5 1 (.slice (some ⟨g,0,none⟩) l.length c) l.length (Lib.byteCells l)):Calls prog 57 #[.pointer (some ⟨b,o,none⟩)] w fun e w'=>e= .returned (.string ⟨l.toArray⟩)/\w'=w.drew.freeze ⟨g,0,none⟩ l.length:=by
 have r:l.length≠0:=by grind
 obtain⟨a,f,h,s,i,t⟩:∃a f,w.heap[g]?=some (.cells a 5 f)/\l.length<=c/\c<=maxLen/\a.size=c*1:=by
  rcases d.2 with⟨k,_⟩|⟨D,p,a,f,k,_,h,_,u,v,y,_⟩
  .cases k
  .cases k;exact⟨a,f,h,u,v,y⟩
 have z:(Builtin.unsafeSliceData_ #[80] 173 #[.slice (some ⟨g,0,none⟩) l.length c]).run prog w.drew= .ok (.pointer (some ⟨g,0,none⟩)) w.drew:=Lib.run_unsafeSliceData_row _ _ _ _ _ _ (by omega);have A:(Builtin.unsafeString_ #[173,3] 9 #[.pointer (some ⟨g,0,none⟩),.int .i64 l.length]).run prog w.drew= .ok (.string ⟨l.toArray⟩) (w.drew.freeze ⟨g,0,none⟩ l.length):=by
  refine Lib.run_unsafeString_row w.drew 173 3 9 5 underlying173 (by kernel_rfl) g a.size (by have m:w.drew.heap[g]?=some (.cells a 5 f):=h;simp[World.shape?,m]) l q (by omega) (by unfold maxLen at i;omega) ?_;intro j x B;have:=d.cells (g:=g) rfl j (.int .u8 x.toNat) (by simp[Lib.byteCells,B]);exact this
 have n:prog.follows .mixedOrders=true:=by kernel_rfl
 go_wp2;go_region_o
 all_goals(go_wp2;go_ret;exact⟨rfl,rfl⟩)
theorem xR (b o:Nat)(v:Value)(c:List UInt8)(w:World)(i:w.cell? ⟨b,o+1,none⟩=some v)(d:ix w v c):Calls prog 57 #[.pointer (some ⟨b,o,none⟩)] w fun e w'=>e= .returned (.string (PJ c))/\ix w' v c/\eH v.ownBlock.toList w w':=by
 by_cases h:c=[]
 .subst h;have f:=d.2 rfl;subst f;refine(xS b o w i).mono ?_;rintro e w' ⟨rfl,j⟩;exact⟨rfl,d.other (fun g k=>by cases k),eH.dP j⟩
 .obtain⟨g,a,f⟩:∃g a,v= .slice (some ⟨g,0,none⟩) c.length a:=by
   rcases d.1.2 with⟨_,l⟩|⟨g,a,_,_,f,_⟩
   .exact absurd (jm l) h
   .exact⟨g,a,f⟩
  subst f;refine(xm b o g a c w i h d.1).mono ?_;rintro e w' ⟨rfl,rfl⟩;exact⟨rfl,⟨GZ (w:=w.drew) d.1,d.2⟩,(Ed w.drew g c.length).wK⟩
def Py (k:Int)(a b:ByteArray)(id:Nat):ByteArray:=gO 1 k a.size b.size id++a++b
theorem Ca (k:Int)(b:Nat)(a c:ByteArray)(id:Nat)(w:World)(g:k=1\/k=2\/k=3)(hb:w.heap[b]?=some (.cells #[.string a] 9 (0,0)))(d:a.size<=8)(h:c.size<=40)(hid:id<65536):Calls prog 161 #[.agg #[.int .i64 k,.slice (some ⟨b,0,none⟩) 1 1,.string c,.string ⟨#[]⟩,.bool false,.int .i64 0],.int .i64 (id:Int)] w fun e w'=>e= .returned (.string (Py k a c id))/\Below w.heap.size w w':=by
 have i:=cb (fun o=>MX k b 0 1 a c ⟨#[]⟩ false 0 (id:Int) (w.alloc o) g (by rw[cF];have:=cA hb;omega) (cn ((cC _ _ _ (cA hb)).trans hb) 0) d h (by omega) (by omega));have f:Hid (∀o,Below w.heap.size w (w.alloc o)):=fun o=>(ct _ _).alloc (PC _) o
 unfold Py;go_enter func161,ntmps161;go_wp2_with fail
 refine(i.out _).mono ?_;rintro e m ⟨rfl,j⟩;have l:=cb j;go_wp2;go_ret;exact⟨rfl,(f.out _).trans (l.out.mono (f.out _).size)⟩
theorem NW (id:Nat)(h:id<65536):IntKind.i64.wrap (id:Int)=(id:Int):=by rw[IntKind.wrap_i64];omega
theorem RX:liesAt prog prog.depth 143 (9 / prog.cellsOf 143) 7 123 1=true:=by kernel_rfl
theorem RW:liesAt prog prog.depth 125 (5 / prog.cellsOf 125) 3 123 1=true:=by kernel_rfl
variable {b:Nat}{W c:World}
structure sI where
 next:Nat
 je:List UInt8
structure ud where
 S:Nat
 m:Nat
 iv:Value
 iu:Int
 ip:Bool
 ic:Bool
 bp:Value
 bv:Value
 l:List (Nat×Value)
def ud.cM (v:ud):List Nat:=v.S::v.m::v.bv.ownBlock.toList
structure xk (W:World)(v:ud)(s:sI):Prop where
 eC:W.heap[v.S]?=some (zT false s.next v.m v.iv v.iu v.ip v.ic v.bp v.bv)
 mp:so W v.m v.l
 pv:∀p∈v.l,∃C q i,p.2=gS C q i
 lt:∀p∈v.l,p.1<s.next
 Bj:v.bp= .pointer none\/v.bp= .pointer (some ⟨v.S,7,none⟩)
 row:ix W v.bv s.je
theorem ia {v:Value}(h:b∈v.ownBlock.toList):v.ownBlock=some b:=by simp_all
theorem xk.old {v:ud}{s:sI}(h:xk W v s):∀b∈v.cM,b<W.heap.size:=by
 intro b hb;rcases cQ.1 hb with rfl|hb
 .exact cA h.eC
 rcases cQ.1 hb with rfl|hb
 .exact h.mp.lt
 .obtain⟨a,d,c⟩:=h.row.eC (ia hb);exact cA c
theorem xk.keep {v:ud}{s:sI}(h:xk W v s)(k:∀b∈v.cM,c.heap[b]?=W.heap[b]?):xk c v s:=
 ⟨(k _ (by simp[ud.cM])).trans h.eC,h.mp.other (k _ (by simp[ud.cM])),h.pv,h.lt,h.Bj,h.row.other (fun g a=>k g (by simp[ud.cM,a]))⟩
structure qG (W:World)(vs:List ud)(ss:List sI):Prop where
 len:vs.length=ss.length
 ok:∀(j:Nat) (v:ud) (s:sI),vs[j]?=some v->ss[j]?=some s->xk W v s
 ap:∀(i j:Nat) (v u:ud),i≠j->vs[i]?=some v->vs[j]?=some u->∀b∈v.cM,b∉u.cM
def rk (a:List ud):List Nat:=(a.map ud.cM).flatten
section
variable {a:List ud}
theorem oO:b∈rk a↔∃(j:Nat) (v:ud),a[j]?=some v/\b∈v.cM:=by
 unfold rk;rw[kL];constructor
 .rintro ⟨l,f,c⟩;obtain⟨v,d,rfl⟩:=dA.1 f;obtain⟨j,g,e⟩:=dG.1 d;exact⟨j,v,by grind,c⟩
 .rintro ⟨j,v,d,c⟩;exact⟨v.cM,dA.2 ⟨v,cu d,rfl⟩,c⟩
theorem qG.get {c:List sI}(h:qG W a c){j:Nat}(d:j<a.length):∃v s,a[j]?=some v/\c[j]?=some s/\xk W v s:=by
 have b:j<c.length:=by rw[<-h.len];exact d
 exact⟨_,_,cp d,cp b,h.ok j _ _ (cp d) (cp b)⟩
theorem qG.old {g:List sI}(h:qG W a g):∀b∈rk a,b<W.heap.size:=by
 intro b i;obtain⟨j,v,f,d⟩:=oO.1 i;obtain⟨k,s,c,l,e⟩:=h.get (cq.1 f).1;rw[f]at c;cases c;exact e.old b d
theorem qG.keep {d:List sI}(h:qG W a d)(k:∀b∈rk a,c.heap[b]?=W.heap[b]?):qG c a d:=
 ⟨h.len,fun j v s e f=>(h.ok j v s e f).keep (fun b g=>k b (oO.2 ⟨j,v,e,g⟩)),h.ap⟩
end
theorem za (k:Int)(a b:ByteArray)(id:Nat)(c:a.size<=8)(d:b.size<=40):(Py k a b id).data.toList.length<=1000:=by
 have e:(gO 1 k a.size b.size id).size=7:=by unfold gO;rfl
 have:(Py k a b id).size=(gO 1 k a.size b.size id).size+a.size+b.size:=by unfold Py;rw[cR,cR]
 rw[gz];omega
def CQ (b pt a:Int)(c d:Value):Obj:= .cells #[.int .i64 b,.int .i64 pt,.int .i64 a,c,d] 129 (0,0)
theorem PG {w:World}{X:Nat}{b pt a:Int}{c d:Value}(h:w.heap[X]?=some (CQ b pt a c d)):w.cell? ⟨X,0,none⟩=some (.int .i64 b)/\w.cell? ⟨X,1,none⟩=some (.int .i64 pt)/\w.cell? ⟨X,2,none⟩=some (.int .i64 a)/\w.cell? ⟨X,3,none⟩=some c/\w.cell? ⟨X,4,none⟩=some d/\∀j,w.frozen? ⟨X,j,none⟩=false:=
 ⟨cn h 0,cn h 1,cn h 2,cn h 3,cn h 4,dN h⟩
theorem qG.apart {W:World}{g:List ud}{l:List sI}(h:qG W g l){b T:Nat}{Z:Array Value}{f:Nat×Nat}(hb:W.heap[b]?=some (.cells Z T f))(m:T≠143)(n:T≠5):b∉rk g:=by
 intro o;obtain⟨j,v,i,hbv⟩:=oO.1 o;obtain⟨q,s,d,r,a⟩:=h.get (cq.1 i).1;rw[i]at d;cases d;rcases cQ.1 hbv with rfl|hbv
 .have:=a.eC;rw[hb]at this;unfold zT at this;simp at this;exact m this.2.1
 rcases cQ.1 hbv with rfl|hbv
 .obtain⟨t,c,k,_⟩:=a.mp;rw[hb]at k;cases k
 .obtain⟨p,u,e⟩:=a.row.eC (ia hbv);rw[hb]at e;simp at e;exact n e.2.1
open Go.Conc
variable {v z:Value}{c g s r:Nat}{f:Array Value}{j:Bool}
def qh (P:Program)(d:Array Oper)(l:List Nat)(Q:Exit->Act->World->Prop)(a:Act)(w:World):Prop:=
 ∀(b:Frame) (k:List Item) (c:List Frame),∃e f w',Q e f w'/\Arrives P (lone (b.at a (.inRegion d l::k)) c w) b k c e f w'
section
variable {P:Program}{d:Array Oper}{Q:Exit->Act->World->Prop}{a:Act}{w w':World}{i:Nat}{rest:List Nat}{o:Oper}
theorem rD {id:Nat}(h:qh P d (List.range d.size) Q a w):(Code.region id d false).wp P Q a w:=
 fun b k c=>let ⟨e,f,w',q,r⟩:=h b k c;⟨e,f,w',q,.of_steps (.one step_region) r⟩
theorem Rj (h:Q .normal a w):qh P d [] Q a w:=fun b k c=>⟨.normal,a,w,h,.one step_region_end⟩
theorem Mv {l:List Nat}(h:wpOps P d Q l a w):qh P d l Q a w:=fun b k c=>wp_ops l a w h b k c
theorem KD (l:List Oper)(k:Nat)(b:∀j,l[j]?=d[k+j]?)(h:wpList P d Q l a w):qh P d (List.range' k l.length) Q a w:=Mv (by rw[wpOps_eq_wpList l k b];exact h)
theorem yX (k:Nat){b:List Nat}(c:b=List.range' k (d.toList.drop k).length)(h:wpList P d Q (d.toList.drop k) a w):qh P d b Q a w:=by
 rw[c];exact KD _ k (fun j=>by simp) h
theorem nP (j:d[i]?=some o)(m:Region.wanted o (yielded d a.tmps)=true)(n:(execOp a.eval o).run P w= .ok (.value v) w')(h:qh P d rest Q (a.put o.dst v) w'):qh P d (i::rest) Q a w:=fun b k l=>by
 obtain⟨e,p,g,q,c⟩:=h b k l
 have r:=stepG_op (P:=P) (b:=b) (k:=k) (cs:=l) (w:=w) (rest:=rest) j m
 have f:(b.at a (.inRegion d (i::rest)::k)).finish v=b.at (a.put o.dst v) (.inRegion d rest::k):=by rw[pr,j];rfl
 refine⟨e,p,g,q,.of_steps (.one (step_lone_go ?_)) c⟩
 rw[r,<-f];simp[stepG.apply,n]
theorem tE {b:Frame}{k:List Item}{cs:List Frame}{e:Array CommCase}{c:Bool}{shape:CommShape}(f:d[i]?=some o)(g:Region.wanted o (yielded d a.tmps)=true)(h:(execOp a.eval o).run P w= .ok (.comm e c shape) w'):∃l,stepG P true (G (b.at a (.inRegion d (i::rest)::k)) cs) w= .comm (G (b.at a (.inRegion d (i::rest)::k)) cs) e c shape w' l:=by
 by_cases j:b.kind= .early
 .rw[stepG_oper f g];simp[stepG.apply,h,G,Frame.at,j,GStep.after]
 .exact⟨_,stepG_comm f g j h⟩
theorem Dr {l:Bool}(t:d[i]?=some o)(x:Region.wanted o (yielded d a.tmps)=true)(y:(execOp a.eval o).run P w= .ok (.comm #[rcase c z] true (.recv false)) w)(A:w.heap[c]?=some (.chan g f l s r j))(hb:0<f.size)
 (h:qh P d rest Q (a.put o.dst (f.getD 0 undef)) (w.setChan c g (f.extract 1 f.size) l s (r+1) j)):qh P d (i::rest) Q a w:=fun b k u=>by
 obtain⟨e,B,q,C,m⟩:=h b k u
 obtain⟨E,D⟩:=tE (b:=b) (k:=k) (cs:=u) (rest:=rest) t x y
 have n:=step_lone_recv_buf false D A hb
 have p:∀v,(b.at a (.inRegion d (i::rest)::k)).finish v=b.at (a.put o.dst v) (.inRegion d rest::k):=fun v=>by rw[pr,t];rfl
 rw[p]at n
 exact⟨e,B,q,C,.of_steps (.one n) m⟩
theorem um (q:d[i]?=some o)(u:Region.wanted o (yielded d a.tmps)=true)(x:(execOp a.eval o).run P w= .ok (.comm #[scase c v z] false .select) w)(y:w.heap[c]?=some (.chan g f false s r j))(hb:f.size<g)
 (h:qh P d rest Q (a.put o.dst (.tuple #[goInt 0,.bool false])) (w.setChan c g (f.push v) false (s+1) r j)):qh P d (i::rest) Q a w:=fun b k t=>by
 obtain⟨e,A,p,B,l⟩:=h b k t
 obtain⟨D,C⟩:=tE (b:=b) (k:=k) (cs:=t) (rest:=rest) q u x
 have m:=step_lone_select_send_room C y hb
 have n:∀v,(b.at a (.inRegion d (i::rest)::k)).finish v=b.at (a.put o.dst v) (.inRegion d rest::k):=fun v=>by rw[pr,q];rfl
 rw[n]at m
 exact⟨e,A,p,B,.of_steps (.one m) l⟩
theorem zR (q:d[i]?=some o)(u:Region.wanted o (yielded d a.tmps)=true)(x:(execOp a.eval o).run P w= .ok (.comm #[scase c v z] false .select) w)(y:w.heap[c]?=some (.chan g f false s r j))(hb:g<=f.size)
 (h:qh P d rest Q (a.put o.dst (.tuple #[goInt (-1),.bool false])) w):qh P d (i::rest) Q a w:=fun b k t=>by
 obtain⟨e,A,p,B,l⟩:=h b k t
 obtain⟨D,C⟩:=tE (b:=b) (k:=k) (cs:=t) (rest:=rest) q u x
 have m:=step_lone_select_send_full C y hb
 have n:∀v,(b.at a (.inRegion d (i::rest)::k)).finish v=b.at (a.put o.dst v) (.inRegion d rest::k):=fun v=>by rw[pr,q];rfl
 rw[n]at m
 exact⟨e,A,p,B,.of_steps (.one m) l⟩
end
variable {W:World}{D t:Nat}{s:St}
theorem PD.Ob {b:Nat}(R:PD W D (some b) t s):∃Z,W.heap[b]?=some (.cells Z 5 (0,0)):=by
 obtain⟨⟨v,u,i,⟨⟨d,⟨j,e⟩,k⟩,a⟩,_⟩,_⟩:=R;rcases e with⟨rfl,_⟩|⟨g,f,c,rfl,_,h,_⟩
 .cases a
 .cases a;exact⟨c,h⟩
theorem PD.dQ {hb:Option Nat}(R:PD W D hb t s):∃Z,W.heap[D]?=some (.cells Z 134 (0,0)):=by
 obtain⟨⟨v,u,a,_⟩,_⟩:=R;exact⟨_,a⟩
def uT (R a:Nat)(b c d:Value):Obj:= .cells #[.pointer (some ⟨R,0,none⟩),.chan (some a),b,c,d] 125 (0,0)
theorem PF {w:World}{C R a:Nat}{b c d:Value}(h:w.heap[C]?=some (uT R a b c d)):w.cell? ⟨C,0,none⟩=some (.pointer (some ⟨R,0,none⟩))/\w.cell? ⟨C,1,none⟩=some (.chan (some a))/\w.cell? ⟨C,2,none⟩=some b/\w.cell? ⟨C,3,none⟩=some c/\w.cell? ⟨C,4,none⟩=some d/\∀j,w.frozen? ⟨C,j,none⟩=false:=
 ⟨cn h 0,cn h 1,cn h 2,cn h 3,cn h 4,dN h⟩
theorem Ht (C R c a s r:Nat)(b:Array Value)(f:Bool)(g h i:Value)(w:World)(j:w.heap[C]?=some (uT R c g h i))(d:w.heap[c]?=some (.chan a b false s r f))(k:a<=b.size):Calls prog 90 #[.pointer (some ⟨C,0,none⟩)] w fun e w'=>e= .returned (.tuple #[.pointer none,.bool false])/\w'=w:=by
 obtain⟨m,n,o,p,q,t⟩:=PF j;have l:=cb d;go_enter func90,ntmps90;go_upto_region 3 with fail
 refine rD ?_;refine zR (c:=c) (v:= .agg #[]) (z:= .agg #[]) rfl rfl (by simp[go_sem,execOp,scase,Act.eval]) l.out k ?_;refine yX 1 rfl ?_;go_wp2;go_ret2;exact⟨rfl,rfl⟩
theorem mq (w:World)(c a:Nat)(b:Array Value)(d:Bool)(s r:Nat)(f:Bool):eH [c] w (w.setChan c a b d s r f):=
 ⟨rfl,rfl,rfl,by simp[World.setChan],fun k h g=>by simp only[World.setChan];rw[dK (fun e=>g (by simp[e]))]⟩
theorem Hu (C R c g s r t:Nat)(d:Int)(hb:Option Nat)(A:St)(a:Array Value)(B:Bool)(P Q S:Value)(w:World)(k:w.heap[C]?=some (uT R c P Q S))(i:w.heap[c]?=some (.chan g a false s r B))(T:a.size<g)(U:dT d t)(D:PD w R hb t A)(V:A.held.length<=140737488355328)(W:fw d A.held=none):Calls prog 90 #[.pointer (some ⟨C,0,none⟩)] w fun e w'=>e= .returned (.tuple #[.pointer none,.bool false])/\eH [c] w w'/\∃j s' X,j.size=a.size/\w'.heap[c]?=some (.chan g j false s' X B):=by
 obtain⟨c0,c1,c2,c3,c4,cf⟩:=PF k;have Y:=cA k;have I:C≠c:=fun e=>by rw[e,i]at k;cases k
 have l:=D.rL i (fun Z f e=>by cases e) (fun Z f e=>by cases e);have E:=mq w c g (a.push (.agg #[])) false (s+1) r B;have m:=heap_setChan w c g (a.push (.agg #[])) false (s+1) r B (cA i);have n:=E.keep k (by simpa using I);have J:=D.other (E.block R (D.lt).1 (by simpa using fun e=>l.1 e.symm)) (fun b o=>E.block b ((D.lt).2 b o) (by simpa using fun e=>l.2 (by rw[o,e])));have p:=cb (uE R t d U _ hb A J V);rw[W]at p;have HC:=cb i;have q:=cb (cd E (cd m n));have d0:=(PF n).1;go_enter func90,ntmps90;go_upto_region 3 with fail
 refine rD ?_;refine um (c:=c) (v:= .agg #[]) (z:= .agg #[]) rfl rfl (by simp[go_sem,execOp,scase,Act.eval]) HC.out T ?_;refine yX 1 rfl ?_;have u:=cA q.out.2.2;go_wp2_with fail
 refine p.out.mono ?_;rintro e F ⟨rfl,R2,K⟩;have L:=(K.block C u).trans q.out.2.2;have v:=(K.block c (cA q.out.2.1)).trans q.out.2.1;have h:=cb (cd K (cd L v));unfold tK;go_upto_region 7 with fail
 have M:Below F.heap.size F (F.alloc (.cells #[.int .i64 0,.slice none 0 0,.string ⟨#[]⟩,.string ⟨#[]⟩,.bool false,.int .i64 0] 36)):=cU;have N:=(M.block C (cA h.out.2.1)).trans h.out.2.1;have x:=(M.block c (cA h.out.2.2)).trans h.out.2.2;have y:=cb (cd M x);have e1:=(PF N).2.1;generalize F.alloc (.cells #[.int .i64 0,.slice none 0 0,.string ⟨#[]⟩,.string ⟨#[]⟩,.bool false,.int .i64 0] 36)=H at*;refine rD ?_;refine nP (v:= .pointer (some ⟨C,0,none⟩)) (w':=H) rfl rfl (by simp[go_sem,execOp,Act.eval]) ?_;refine nP (v:= .pointer (some ⟨C,0,none⟩)) (w':=H) rfl rfl (by simp[go_sem,execOp,Act.eval,Act.put]) ?_
 refine nP (v:= .pointer (some ⟨C,1,none⟩)) (w':=H) rfl rfl (by simp[go_sem,execOp,Act.eval,Act.put]) ?_;refine nP (v:= .chan (some c)) (w':=H) rfl rfl (by simp[go_sem,execOp,Act.eval,Act.put,e1]) ?_;refine Dr (c:=c) (z:= .agg #[]) rfl rfl (by simp[go_sem,execOp,rcase,Act.eval,Act.put]) y.out.2 (by simp) ?_;refine Rj ?_;simp only[Act.put]
 go_wp2;go_ret2;have hs:((a.push (.agg #[])).extract 1 (a.size+1)).size=a.size:=by simp
 have O:=y.out;refine⟨rfl,?_,_,_,_,hs,heap_setChan _ _ _ _ _ _ _ _ (cA O.2)⟩;have z:dB w [c] [c]:=dB.refl _ _;exact(q.out.1.trans (eH.dP h.out.1) z).trans ((eH.dP (M:=[c]) O.1).trans (mq _ _ _ _ _ _ _ _) (dB.refl _ _)) z
theorem LP:∃i,prog.info? 175=some i/\i.zero=some (.pointer none)/\i.size=1/\i.bytes=8:=by
 have h:(prog.info? 175).map (fun i=>(i.zero,i.size,i.bytes))=some (some (.pointer none),1,8):=by kernel_rfl
 obtain⟨i,b,a⟩:=dX.1 h;simp at a;exact⟨i,b,a.1,a.2.1,a.2.2⟩
theorem dR {w w':World}{base e d n:Nat}{v:Value}{j:List Value}(h:w.ownsRow base e d v n j)(k:∀g,v.ownBlock=some g->w'.heap[g]?=w.heap[g]?):w'.ownsRow base e d v n j:=by
 obtain⟨l,m|⟨g,f,i,rfl,a,b,c⟩⟩:=h
 .exact⟨l,.inl m⟩
 .exact⟨l,.inr ⟨g,f,i,rfl,a,(k g rfl).trans b,c⟩⟩
structure Lk (lo:Nat)(w':World)(q:Nat)(c:iO):Prop where
 ge:lo<=q
 at_:∃ka kn kc yb vb,lo<=yb/\lo<=vb/\gV w' lo (.slice ka kn kc) c.keys/\w'.heap[q]?=some (sx c.kind (.slice ka kn kc) c.val c.word c.fatal c.id kn false false (.slice (some ⟨yb,0,none⟩) kn kn) (.slice (some ⟨vb,0,none⟩) kn kn))/\w'.heap[yb]?=some (.cells (Array.replicate kn (.bool false)) 4 (0,0))/\w'.heap[vb]?=some (.cells (Array.replicate kn (.string ⟨#[]⟩)) 9 (0,0))
theorem Hw (C R z D s r t n:Nat)(d:Int)(hb:Option Nat)(st:St)(x:iC)(xs:List Value)(E:Array Value)(tm:Bool)(wv bp bv:Value)(w:World)(hC:w.heap[C]?=some (uT R z wv bp bv))(M:w.heap[z]?=some (.chan D E false s r tm))(hf:E.size<D)(hd:dT d t)(hR:PD w R hb t st)(hl:st.held.length<=140737488355328)(hn:fw d st.held=some x)(hW:w.ownsRow 0 175 1 wv n xs)(aK:n<=1000000)(aL:x.c.keys.length<=1000000):Calls prog 90 #[.pointer (some ⟨C,0,none⟩)] w fun e w'=>∃(q U c':Nat) (ab:Array Value) (s' r':Nat) (A:Option Nat),e= .returned (.tuple #[.pointer (some ⟨q,0,none⟩),.bool true])/\w'.heap[C]?=some (uT R z (.slice (some ⟨U,0,none⟩) (n+1) c') bp bv)/\w'.ownsRow 0 175 1 (.slice (some ⟨U,0,none⟩) (n+1) c') (n+1) (xs++[.pointer (some ⟨q,0,none⟩)])/\(wv.ownBlock=some U\/w.heap.size<=U)/\ab.size=E.size+1/\w'.heap[z]?=some (.chan D ab false s' r' tm)/\PD w' R A t (fm st x)/\lN w hb A/\Lk w.heap.size w' q x.c/\eH (C::z::R::(hb.toList++wv.ownBlock.toList)) w w':=by
 obtain⟨c0,c1,c2,c3,c4,cf⟩:=PF hC;have aM:=cA hC;have ah:C≠z:=fun e=>by rw[e,M]at hC;cases hC
 have ai:=hR.rL M (fun Z f e=>by cases e) (fun Z f e=>by cases e);have k1:=mq w z D (E.push (.agg #[])) false (s+1) r tm;have N:=heap_setChan w z D (E.push (.agg #[])) false (s+1) r tm (cA M);have V:=k1.keep hC (by simpa using ah);have X:PD (w.setChan z D (E.push (.agg #[])) false (s+1) r tm) R hb t st:=hR.other (k1.block R (hR.lt).1 (by simpa using fun e=>ai.1 e.symm)) (fun b A=>k1.block b ((hR.lt).2 b A) (by simpa using fun e=>ai.2 (by rw[A,e])));have ac:=cb (uE R t d hd _ hb st X hl);rw[hn]at ac;have HC:=cb M;have ad:∀g,wv.ownBlock=some g->∃m,w.heap[g]?=some (.cells m 175 (0,0)):=fun g T=>by
  rcases hW.2 with⟨e,_⟩|⟨U,aG,m,e,_,h6,_⟩
  .rw[e]at T;cases T
  .rw[e]at T;cases T;exact⟨m,h6⟩
 have Y:=cb (cd k1 (cd N (cd V (cd X (cd ad hW)))));have d0:=(PF V).1;obtain⟨va,vn,vc,rfl⟩:=ot hW;clear hC M k1 N V X hR hn ad hW;go_enter func90,ntmps90;go_upto_region 3 with fail
 refine rD ?_;show qh _ _ [0,1,2] _ _ _;refine um (c:=z) (v:= .agg #[]) (z:= .agg #[]) rfl rfl (by simp[go_sem,execOp,scase,Act.eval]) HC.out hf ?_;refine yX 1 rfl ?_;simp only[List.drop,goInt]
 generalize au:w.setChan z D (E.push (.agg #[])) false (s+1) r tm=w1 at*;go_wp2_with fail
 go_at_call 121;refine ac.out.mono ?_;rintro e w2 ⟨ka,kn,kc,rfl,O,T2⟩;have ae:=T2.keep Y.out.2.2.2.1 Y.out.2.2.1 (fun Z f e=>by unfold uT at e;cases e) (fun Z f e=>by unfold uT at e;cases e);have P:=T2.keep Y.out.2.2.2.1 Y.out.2.1 (fun Z f e=>by cases e) (fun Z f e=>by cases e);have av:x.c.keys.length=kn:=by rcases O with⟨e,h⟩|⟨b,c,e,_⟩<;>(cases e;first|(rw[h];rfl)|rfl)
 have L:=cb (cd T2 (cd ae (cd P O)));have aw:kn<=1000000:=by omega
 clear T2 ae P O av ac;have HQ:=cb (fun W=>xq x.c.kind ka kn kc x.c.val x.c.word x.c.fatal x.c.id W aw);go_wp2_with fail
 go_at_call 131;refine(HQ.out _).mono ?_;rintro e Q ⟨q,yb,vb,rfl,hq,F,H,gq,gy,gv,B4⟩;have y:Below w2.heap.size w2 Q:=((ct _ w2).alloc (PC _) _).trans (B4.mono (by simp));have p:=(y.block C (cA L.out.2.1)).trans L.out.2.1;have J:=(y.block z (cA L.out.2.2.1)).trans L.out.2.2.1;have e2:=(PF p).2.2.1;have aj:=cA p;have l:∀g,(Value.slice va vn vc).ownBlock=some g->∃m,w.heap[g]?=some (.cells m 175 (0,0))/\Q.heap[g]?=some (.cells m 175 (0,0)):=fun g T=>by
  obtain⟨m,K⟩:=Y.out.2.2.2.2.1 g T;have h1:=Y.out.1.keep K (by simp;intro e;rw[e,HC.out]at K;cases K);have h2:=L.out.1.keep Y.out.2.2.2.1 h1 (fun Z f e=>by cases e) (fun Z f e=>by cases e);exact⟨m,K,(y.block g (cA h2)).trans h2⟩
 have af:Q.ownsRow 0 175 1 (.slice va vn vc) n xs:=dR Y.out.2.2.2.2.2 (fun g T=>by obtain⟨m,a,b⟩:=l g T;rw[a,b]);have ag:(Value.slice va vn vc).ownBlock≠some C:=fun e=>by
  obtain⟨m,_,b⟩:=l C e;rw[p]at b;unfold uT at b;cases b
 have H4:=cb (cd y (cd p (cd J (cd l (cd af (cd ag (cd hq (cd F (cd H (cd gq (cd gy gv)))))))))));obtain⟨i1,hi,ak,al,am⟩:=LP;have HI:=cb (cd hi (cd ak (cd al am)));have ax:=cb (show∀(j:Nat) (u:Value),[Value.pointer (some ⟨q,0,none⟩)][j]?=some u->(Q.alloc (.cells #[.pointer (some ⟨q,0,none⟩)] 175)).cell? ((⟨Q.heap.size,0,none⟩:Addr).add j)=some u from World.news_of_block (cs:=#[.pointer (some ⟨q,0,none⟩)]) (du Q _));clear y p J l af ag hq F H gq gy gv B4 hi ak al am;go_wp2_with (first
  |(at_builtin;refine wpList_append_lies _ rfl _ _ _ rfl 0 175 i1 (.pointer none) 1 8 underlying120 HI.out.1 HI.out.2.1 HI.out.2.2.1 HI.out.2.2.2 rfl (by omega) (.slice va vn vc) n xs rfl (eA H4.out.2.2.2.2.1 _) ⟨Q.heap.size,0,none⟩ 1 1 [.pointer (some ⟨q,0,none⟩)] rfl rfl ax.out (by simp[Value.oneCell']) (by omega) (by unfold maxLen;omega) (by omega) (cG _) (Q.heap.size+1) (by simp) ?_;intro U c' w6 B i aa aH;have I:w6.heap[C]?=some (uT R z (.slice va vn vc) bp bv):=(i.block C (by simp;omega) (fun e=>H4.out.2.2.2.2.2.1 e.symm)).trans ((cC _ _ _ aj).trans H4.out.2.1);have f2:=(PF I).2.2.1;have ff:=(PF I).2.2.2.2.2 2;have H6:=cb (cd I (cd B (cd i aa)));clear I B i aa)
  |fail)
 go_ret2;obtain⟨k1,N,V,X,ad,hW⟩:=Y.out;obtain⟨T2,ae,P,O⟩:=L.out;obtain⟨y,p,J,l,af,ag,hq,F,H,gq,gy,gv⟩:=H4.out;obtain⟨I,B,i,aa⟩:=H6.out;have aN:w1.heap.size=w.heap.size:=by rw[<-au];exact size_setChan _ _ _ _ _ _ _ _
 have aO:=T2.turn.size;have aP:=y.size;have ay:=i.size;rw[cF]at ay;have v:∀(b:Nat) (o:Obj),Q.heap[b]?=some o->b≠C->(∀Z f,o≠ .cells Z 175 f)->(w6.setCell ⟨C,2,none⟩ (.slice (some ⟨U,0,none⟩) (n+1) c')).heap[b]?=some o:=fun b o h az aA=>
  (cz w6 ⟨C,2,none⟩ _ b az).trans ((i.block b (by have:=cA h;rw[cF];omega) (fun e=>by
   obtain⟨m,_,hc⟩:=l b e.symm;rw[h]at hc;exact aA _ _ (gQ hc))).trans ((cC _ _ _ (cA h)).trans h))
 obtain⟨⟨A,R2,F2⟩,S⟩:=T2;have R4:=R2.below y;have an:=R4.rL p (fun Z f e=>by unfold uT at e;cases e) (fun Z f e=>by unfold uT at e;cases e);have aB:∀b,A=some b->∃Z f,Q.heap[b]?=some (.cells Z 5 f):=fun b e=>by subst e;obtain⟨Z,hZ⟩:=R4.Ob;exact⟨Z,_,hZ⟩
 obtain⟨ZD,ao⟩:=R4.dQ;have aC:q≠C:=fun e=>by rw[e,p]at hq;unfold uT sx at hq;cases hq
 have ap:yb≠C:=fun e=>by rw[e,p]at F;unfold uT at F;have:=congrArg (fun o=>match o with|some (Obj.cells _ t _)=>t|_=>0) F;simp at this
 have aq:vb≠C:=fun e=>by rw[e,p]at H;unfold uT at H;have:=congrArg (fun o=>match o with|some (Obj.cells _ t _)=>t|_=>0) H;simp at this
 have ar:z≠C:=fun e=>ah e.symm
 have aD:w.heap.size<=q:=by rw[cF]at gq;omega
 have aE:w.heap.size<=yb:=by rw[cF]at gy;omega
 have aF:w.heap.size<=vb:=by rw[cF]at gv;omega
 refine⟨q,U,c',_,_,_,A,rfl,dh I _,dR B (fun g T=>cz w6 ⟨C,2,none⟩ _ g (fun e=>?_)),?_,by simp,v z _ J ar (fun Z f e=>by cases e),?_,?_,⟨aD,ka,kn,kc,yb,vb,aE,aF,?_,v q _ hq aC (fun Z f e=>by unfold sx at e;cases e),v yb _ F ap (fun Z f e=>by cases e),v vb _ H aq (fun Z f e=>by cases e)⟩,?_⟩
 .cases T;rcases B.2 with⟨h,_⟩|⟨g2,aI,aJ,h,_,h3,_⟩
  .cases h
  .cases h;rw[show U=C from e,I]at h3;unfold uT at h3;cases h3
 .rcases aa with h|h
  .exact .inl h
  .exact .inr (by omega)
 .exact R4.other ((v R _ ao (fun e=>an.1 e.symm) (fun Z f e=>by cases e)).trans ao.symm) (fun b e=>by obtain⟨Z,f,hZ⟩:=aB b e;exact(v b _ hZ (fun h=>an.2 (by rw[e,h])) (fun Z f e=>by cases e)).trans hZ.symm)
 .rcases F2 with h|h|⟨k,h,hk⟩
  .exact .inl h
  .exact .inr (.inl h)
  .exact .inr (.inr ⟨k,h,by omega⟩)
 .exact O.other (by omega) (fun b c Z hZ _ _=>by
   have h4:=(y.block b (cA hZ)).trans hZ;exact(v b _ h4 (fun e=>by rw[e,p]at h4;unfold uT at h4;cases h4) (fun Z f e=>by cases e)).trans hZ.symm)
 .have m1:eH (C::z::R::(hb.toList++(Value.slice va vn vc).ownBlock.toList)) w w1:=k1.more (by simp);have m2:eH (R::hb.toList) w1 w2:=⟨S.os,S.tape,S.output,S.size,fun k hk hn=>S.block k hk (fun e=>hn (by simp[e])) (fun e=>hn (by rw[<-e];simp))⟩
  have m4:=(m1.trans m2 (fun b hm=> .inl (by simp at hm⊢;rcases hm with h|h<;>simp[h]))).trans (eH.dP (M:=[]) y) (fun b hm=>by cases hm);have m5:eH (C::z::R::(hb.toList++(Value.slice va vn vc).ownBlock.toList)) w (Q.alloc (.cells #[.pointer (some ⟨q,0,none⟩)] 175)):=m4.trans (eH.dP (M:=[]) cU) (fun b hm=>by cases hm);exact(m5.grown i (fun b e=> .inl (by rw[e];simp))).set (.inl (by simp)) _
theorem Bh (q:Nat)(k:Int)(c:Value)(a d:ByteArray)(f:Bool)(id n:Int)(g h:Bool)(i j:Value)(w:World)(l:w.heap[q]?=some (sx k c a d f id n g h i j)):Calls prog 127 #[.pointer (some ⟨q,0,none⟩)] w fun e w'=>e= .returned (.bool (decide (n=0)))/\w'=w:=by
 have m:=cn l 6;by_cases b:n=0
 .subst b;go_wp2;go_ret;exact⟨rfl,rfl⟩
 .go_wp2;go_ret;exact⟨by simp[b],rfl⟩
theorem Bg (q:Nat)(d:Value)(a b:ByteArray)(f:Bool)(id n:Int)(g h:Bool)(i j:Value)(w:World)(c:w.heap[q]?=some (sx 4 d a b f id n g h i j)):Calls prog 129 #[.pointer (some ⟨q,0,none⟩)] w fun e w'=>e= .returned (eW 5 (.slice none 0 0) (.slice none 0 0) b)/\Below w.heap.size w w':=by
 have m:=cn c 0;have p:=cn c 3;have k:=cA c;have l:Hid (∀o,Below w.heap.size w (w.alloc o)):=fun o=>(ct _ _).alloc (PC _) o
 go_wp2;refine cE (v:= .agg #[.int .i64 5,.slice none 0 0,.slice none 0 0,.string b]) (by simp[results,results129,go_sem]) rfl ⟨rfl,l.out _⟩
end Go.Proofs.YtlonjggfnleolaaGreatDoor
namespace Go.Proofs
open Go.Shelf
def Tryz.CT:Go.Shelf.Ren:=⟨fun|45=>130|n=>n,fun|22=>120|23=>175|n=>n,fun|n=>n⟩
theorem Tryz.LZ:SlLaysE.n45 prog Tryz.CT:={
 mixed:=by kernel_rfl
 f45:=⟨f130.name,by kernel_rfl,func130.trans (congrArg some (by kernel_rfl))⟩
 t0:=underlying0
 a0:=isAgg0
 z0:=sizeOf0
 v0:=zeroValue0
 t3:=underlying3
 a3:=isAgg3
 z3:=sizeOf3
 v3:=zeroValue3
 t4:=underlying4
 a4:=isAgg4
 z4:=sizeOf4
 v4:=zeroValue4
 t22:=underlying120
 a22:=isAgg120
 z22:=sizeOf120
 v22:=zeroValue120
 a23:=isAgg175
 z23:=sizeOf175}
end Go.Proofs
namespace Go.Proofs.YtlonjggfnleolaaGreatDoor
open Go.RowKit Go.Shelf Go.Sort Go.Proofs.Tryz
set_option linter.unusedVariables false
set_option maxRecDepth 100000
def dC (b:Nat):Value:= .pointer (some ⟨b,0,none⟩)
def zE (b:Nat):Option Addr:=some ⟨b,0,none⟩
theorem JK (g d q:Nat)(a:List Nat)(w:World)(B:w.ownsRow 0 175 1 (.slice (some ⟨g,0,none⟩) (a.length+1) d) (a.length+1) ((q::a).map dC)):Calls prog 130 #[.slice (some ⟨g,0,none⟩) (a.length+1) d,.int .i64 0,.int .i64 1] w fun e w'=>e= .returned (.slice (some ⟨g,0,none⟩) a.length d)/\w'.ownsRow 0 175 1 (.slice (some ⟨g,0,none⟩) a.length d) a.length (a.map dC)/\eH [g] w w':=by
 obtain⟨c,o,C,f,p,r⟩:∃c,w.heap[g]?=some (.cells c 175 (0,0))/\a.length+1<=d/\d<=maxLen/\c.size=d*1/\c.toList.take ((a.length+1)*1)=(q::a).map dC:=by
  rcases B.2 with⟨h,_⟩|⟨N,z,c,h,_,m,n,s,E,F⟩
  .cases h
  .cases h;exact⟨c,m,n,s,E,F⟩
 have t:(prog.info? 175).map (·.size)=some 1:=by kernel_rfl
 obtain⟨H,u,v⟩:=dX.1 t;have l:((q::a).map zE).toArray.size=a.length+1:=by simp
 have I:Holds Value.pointer w g 0 ((q::a).map zE).toArray:=by
  intro j J;rw[l]at J;refine⟨?_,dN o _⟩;rw[eB,cn o j];have m:(c.toList.take ((a.length+1)*1))[j]?=((q::a).map dC)[j]?:=by rw[r]
  rw[dx (by omega)]at m;have n:c[j]?=((q::a).map dC)[j]?:=by grind
  rw[n];have x:j<(q::a).length:=by simp_all
  rw[cL,cp x,getElem!_pos ((q::a).map zE).toArray j (by omega)];rw[List.getElem_toArray,List.getElem_map];rfl
 have h:=AnyE.slices_Delete (P:=prog) Tryz.LZ Value.pointer (fun _=>rfl) none (fun w=>zeroValue175 w) H u v g 0 d 0 1 ((q::a).map zE).toArray w I (by simp_all) (by unfold maxLen at f;omega) (by omega) (by simp);rw[l]at h;refine h.mono ?_;rintro e w' ⟨rfl,k,rfl⟩;obtain⟨D,A⟩:∃D,D=(((q::a).map zE).toArray.toList.take 0++((q::a).map zE).toArray.toList.drop 1++List.replicate (1-0) none).toArray:=⟨_,rfl⟩
 have K:D.toList=a.map zE++[none]:=by rw[A];simp
 have L:D.size=a.length+1:=by simp_all
 rw[<-A];have y:(putRow Value.pointer (Sort.ahead w k) g 0 D).heap[g]?=some (.cells (putCells Value.pointer 0 D c) 175 (0,0)):=by
  unfold putRow mapBlock;simp only[oA,pS]
  rw[show(Sort.ahead w k).heap[g]?=w.heap[g]?from rfl,o];rfl
 refine⟨rfl,⟨by simp,.inr ⟨g,d,_,rfl,cG _,y,by omega,f,?_,?_⟩⟩,⟨rfl,rfl,rfl,?_,fun b O M=>?_⟩⟩
 .unfold putCells;simp[p]
 .apply fS;intro i;by_cases t:i<a.length
  .rw[dx (by omega)];unfold putCells;rw[Array.getElem?_toList,Array.getElem?_mapIdx,dZ (show i<c.size by omega)];simp only[gP]
   rw[cN (by omega),getElem!_pos D (i-0) (by omega)];have m:D.toList[i]?=some (zE a[i]):=by grind
   have n:D[i]?=some (zE a[i]):=by grind
   have s:D[i-0]'(by omega)=zE a[i]:=by grind
   rw[s,cL,cp t];rfl
  .rw[lG (by simp;omega),lG (by simp;omega)]
 .unfold putRow mapBlock;simp
 .unfold putRow mapBlock;simp only[oA]
  rw[cD (fun e=>M (by simp[<-e]))];rfl
end Go.Proofs.YtlonjggfnleolaaGreatDoor
namespace Go.Proofs.YtlonjggfnleolaaGreatDoor
open Go.RowKit Go.Shelf Go.Proofs.Tryz
structure xJ where
 d:Int
 st:St
 waits:List iO
 told:List UInt8
structure gU where
 C:Nat
 R:Nat
 ch:Nat
 t:Nat
 hb:Option Nat
 wv:Value
 bp:Value
 bv:Value
 qs:List Nat
def gU.cM (v:gU):List Nat:=v.C::v.ch::v.R::(v.hb.toList++v.wv.ownBlock.toList++v.bv.ownBlock.toList)
def OS (W:World)(q:Nat)(c:iO):Prop:=∃e b a d f g,gV W e (.slice b a d) c.keys/\W.heap[q]?=some (sx c.kind (.slice b a d) c.val c.word c.fatal c.id a false false f g)
structure Cg (c:iO):Prop where
 k4:c.keys.length<=4
 k8:∀k∈c.keys,k.size<=8
 v40:c.val.size<=40
 Su:0<=c.id
 Sv:c.id<=65535
 fG:c.keys=[]->c.kind=4/\c.word.size<=8
 right:c.keys≠[]->c.kind=1\/c.kind=2\/c.kind=3
structure FH (W:World)(win:Nat)(v:gU)(s:xJ):Prop where
 eC:W.heap[v.C]?=some (uT v.R v.ch v.wv v.bp v.bv)
 rd:PD W v.R v.hb v.t s.st
 di:dT s.d v.t
 chan:∃buf a b tm,W.heap[v.ch]?=some (.chan win buf false a b tm)/\buf.size=s.waits.length
 row:W.ownsRow 0 175 1 v.wv s.waits.length (v.qs.map dC)
 ql:v.qs.length=s.waits.length
 qu:∀(i:Nat) (q:Nat) (c:iO),v.qs[i]?=some q->s.waits[i]?=some c->OS W q c
 Bj:v.bp= .pointer none\/v.bp= .pointer (some ⟨v.C,3,none⟩)
 DU:ix W v.bv s.told
 ab:∀b,v.bv.ownBlock=some b->v.hb≠some b
 ok:∀c∈s.waits,Cg c
theorem cZ {w:World}{base e b n:Nat}{v:Value}{d:List Value}(h:w.ownsRow base e b v n d){g:Nat}(c:v.ownBlock=some g):∃a,w.heap[g]?=some (.cells a e (0,0)):=by
 rcases h.2 with⟨rfl,_⟩|⟨j,f,a,rfl,_,i,_⟩
 .cases c
 .cases c;exact⟨a,i⟩
def qW (d:Int)(c:iO):ByteArray:=if d=1 then oV 5 c.word else if d=2 then gO 2 2 0 0 0 else oW 5 c.word
open Go.Conc
theorem lj {b:Nat}{o:Option Nat}(h:b∈o.toList):o=some b:=by grind
end Go.Proofs.YtlonjggfnleolaaGreatDoor
