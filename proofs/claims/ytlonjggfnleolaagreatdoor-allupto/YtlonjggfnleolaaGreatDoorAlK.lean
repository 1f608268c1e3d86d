import Derived.Test.YtlonjggfnleolaaGreatDoorSayB
import Derived.Test.YtlonjggfnleolaaGreatDoorAlD
import Derived.Test.YtlonjggfnleolaaGreatDoorLawK
import Derived.Test.YtlonjggfnleolaaGreatDoorNwD
import Derived.Test.YtlonjggfnleolaaGreatDoorRnL
import Derived.Test.YtlonjggfnleolaaGreatDoorGiven
set_option linter.unusedVariables false
set_option maxHeartbeats 4000000
set_option maxRecDepth 100000
namespace Go.Proofs.YtlonjggfnleolaaGreatDoor
open Go.RowKit Go.Shelf Go.Proofs.Tryz
variable {w c:World}{E:Nat}{d:oy}{g:Obj}{m:Value}{i:List fB}{cs:List dE}{n:List fe}{o:List dS}
structure lO (w w1:World)(lo:Nat)(d:oy)(OB:Obj)(cv:Value)(cis:List fB)(cs:List dE)(vs:List fe)(ss:List dS):Prop where
 iw:fs w1 d.X d.sv d.pt d.win d.g d.sc cv cis cs vs ss
 ref:eN w1 d.Xr d.sv d.pt d.win d.NK d.rrv d.yN d.cs d.rvs d.ss
 mQ:eH d.yi w w1
 sF:dB w d.yi (eL d.X cv cis vs)
 ob:w1.heap[w.heap.size]?=some OB
 eC:w1.heap[d.D]?=some (.cells #[dC d.X,dC d.Xr] 201 (0,0))
theorem nU.half {a:World}(h:nU w E d)(hb:Below w.heap.size w a)(u:a.heap[w.heap.size]?=some g)(x:fs c d.X d.sv d.pt d.win d.g d.sc m i cs n o)(k:eH d.yi a c)(l:dB a d.yi (eL d.X m i n)):lO w c E d g m i cs n o:=by
 have j:=(eH.dP (M:=d.yi) hb).trans k (dB.refl _ _);have v:∀q:List Nat,(∀t∈q,t∉Qr)->iT q w c:=fun q r=>Bw j (fun b hb Z T f y=>h.iw.types hb y) r
 refine⟨x,h.ref.keep j.size (fun b p=>j.block b (h.ref.old p) (fun z=>h.ap b z p)) (v _ (by decide)),j,fun b s=>?_,(k.block _ (cA u) (fun p=>?_)).trans u,((v [201] (by decide)) _ _ _ _ h.eC (by simp)).trans h.eC⟩
 .rcases l b s with e|e
  .exact .inl e
  .exact .inr (cP hb.size e)
 .have:=h.iw.old _ p;omega
theorem lO.whole {q:World}(h:lO w c E d g m i cs n o)(s:nU w E d)(D:E<=w.heap.size){p:Value}{a:List eE}(F:eN q d.Xr d.sv d.pt d.win p d.rrv a cs d.rvs o)(k:eH d.wP c q)(l:dB c d.wP (fZ d.Xr p a d.rvs)):nU q E {d with cv:=m,cis:=i,cs:=cs,vs:=n,ss:=o,NK:=p,yN:=a}/\eH d.cM w q/\dB w d.cM ({d with cv:=m,cis:=i,cs:=cs,vs:=n,ss:=o,NK:=p,yN:=a}:oy).cM/\q.heap[w.heap.size]?=some g/\q.heap[d.D]?=some (.cells #[dC d.X,dC d.Xr] 201 (0,0)):=by
 have A:∀y:List Nat,(∀t∈y,t∉Qs)->iT y c q:=fun y z=>Bw k (fun b j Z T f H=>h.ref.RU j H) z
 have B:dB w d.cM ({d with cv:=m,cis:=i,cs:=cs,vs:=n,ss:=o,NK:=p,yN:=a}:oy).cM:=fun b j=>by
  rcases cr.1 j with e|e
  .rcases h.sF b e with e|e
   .exact .inl (cr.2 (.inl e))
   .exact .inr e
  .rcases l b e with e|e
   .exact .inl (cr.2 (.inr e))
   .exact .inr (cP h.mQ.size e)
 have C:=((A [201] (by decide)) _ _ _ _ h.eC (by simp)).trans h.eC;have r:∀b∈eL d.X m i n,b∉d.wP:=fun b j u=>by
  rcases h.sF b j with e|e
  .exact s.ap b e u
  .have:=s.ref.old u;omega
 refine⟨⟨C,h.iw.Sb (fun b v=>k.block b (h.iw.old b v) (r b v)) (A _ (by decide)),F,fun b j u=>?_,fun b j=>?_⟩,?_,B,?_,C⟩
 .rcases l b u with e|e
  .exact r b j e
  .have:=h.iw.old b j;omega
 .rcases B b j with e|e
  .exact s.ge b e
  .omega
 .refine(h.mQ.more (fun x I=>cr.2 (.inl I))).trans k (fun b j=> .inl (cr.2 (.inr j)))
 .refine(k.block _ (cA h.ob) (fun v=>?_)).trans h.ob;have:=s.ref.old v;omega
section
variable (D X b:Nat)(j t:Int)(z:Value)(f v:ByteArray)(p:Bool)(h A:Int)(C B:Value)(r:ByteArray)(q u g2:Int)(s:ByteArray)(x y:Int)(w:World)(a:Int)(g:Obj)(k l:World->Prop)
theorem qV (i:g= .cells #[.int .i64 13,.int .i64 j,.int .i64 t,z,.string f,.string v,.bool p,.int .i64 h,.int .i64 A,C,B,.string r,.int .i64 q,.int .i64 u,.int .i64 g2,.string s,.int .i64 x,.int .i64 y] 95)(K:w.heap[D]?=some (.cells #[dC X,dC b] 201 (0,0)))(V:Calls prog 32 #[dC X,.int .i64 x,.string s] (w.alloc g).drew fun e c=>e= .returned (.int .i64 a)/\k c)(Y:∀c,k c->Calls prog 116 #[dC b,.int .i64 x,.string s] c.drew fun e E=>e= .returned (.int .i64 a)/\l E)(Z:∀c,k c->c.heap[D]?=some (.cells #[dC X,dC b] 201 (0,0))/\c.heap[w.heap.size]?=some g)(k2:∀E,l E->E.heap[D]?=some (.cells #[dC X,dC b] 201 (0,0))/\E.heap[w.heap.size]?=some g):Calls prog 71 #[dC D,Value.agg #[.int .i64 13,.int .i64 j,.int .i64 t,z,.string f,.string v,.bool p,.int .i64 h,.int .i64 A,C,B,.string r,.int .i64 q,.int .i64 u,.int .i64 g2,.string s,.int .i64 x,.int .i64 y]] w fun e w'=>e= .returned (.bool true)/\l w':=by
 have L:=cA K;have M:Hid (∀W:World,W.heap[D]?=some (.cells #[dC X,dC b] 201 (0,0))/\W.heap[w.heap.size]?=some g->W.cell? ⟨D,0,none⟩=some (.pointer (some ⟨X,0,none⟩))/\W.cell? ⟨D,1,none⟩=some (.pointer (some ⟨b,0,none⟩))/\W.cell? ⟨w.heap.size,0,none⟩=some (.int .i64 13)/\W.cell? ⟨w.heap.size,16,none⟩=some (.int .i64 x)/\W.cell? ⟨w.heap.size,15,none⟩=some (.string s)/\D<W.heap.size/\w.heap.size<W.heap.size):=fun W J=>by
  have d:=J.2;rw[i]at d;exact⟨cn J.1 0,cn J.1 1,cn d 0,cn d 16,cn d 15,cA J.1,cA d⟩
 have F:(w.alloc g).heap[D]?=some (.cells #[dC X,dC b] 201 (0,0))/\(w.alloc g).heap[w.heap.size]?=some g:=⟨(cC _ _ _ L).trans K,du w g⟩
 obtain⟨d0,d1,o0,N,O,l1,l2⟩:=M.out _ F;have H1:=cb V;have H2:=cb Y;have K1:=cb Z;have K2:=cb k2;clear V Y Z k2 K F;unfold dC at*;go_enter nG,mG;go_wp2_with fail
 rw[<-i];clear i;generalize w.alloc g=w0 at*;go_region_held3 (fun m=>m.cell? ⟨D,0,none⟩=some (.pointer (some ⟨X,0,none⟩))/\m.cell? ⟨w.heap.size,16,none⟩=some (.int .i64 x)/\m.cell? ⟨w.heap.size,15,none⟩=some (.string s)) (go_keep) (first
  |(go_at_call 32;refine H1.out.mono ?_;rintro e c ⟨rfl,n⟩;obtain⟨d10,d11,P,H,I,Q,R⟩:=M.out _ (K1.out _ n);have S:=cb n;clear n d0 d1 o0 N O l1 l2)
  |fail)
 have HQ:=cb (H2.out c S.out);go_wp2_with fail
 go_region_held3 (fun m=>m.cell? ⟨D,1,none⟩=some (.pointer (some ⟨b,0,none⟩))/\m.cell? ⟨w.heap.size,16,none⟩=some (.int .i64 x)/\m.cell? ⟨w.heap.size,15,none⟩=some (.string s)) (go_keep) (first
  |(go_at_call 116;refine HQ.out.mono ?_;rintro e E ⟨rfl,o⟩;obtain⟨d20,d21,ac,aa,ab,ad,ae⟩:=M.out _ (K2.out _ o);have T:=cb o;clear o d10 d11 P H I Q R)
  |fail)
 go_wp2_with (first|(go_at_call 99;refine(qp _ _).mono ?_;rintro e w3 ⟨rfl,U⟩;subst U)|fail)
 go_ret;exact⟨rfl,T.out⟩
theorem sY (i:g= .cells #[.int .i64 14,.int .i64 j,.int .i64 t,z,.string f,.string v,.bool p,.int .i64 h,.int .i64 A,C,B,.string r,.int .i64 q,.int .i64 u,.int .i64 g2,.string s,.int .i64 x,.int .i64 y] 95)(J:w.heap[D]?=some (.cells #[dC X,dC b] 201 (0,0)))(T:Calls prog 33 #[dC X,.int .i64 x] (w.alloc g).drew fun e c=>e= .returned (.int .i64 a)/\k c)(U:∀c,k c->Calls prog 117 #[dC b,.int .i64 x] c.drew fun e o=>e= .returned (.int .i64 a)/\l o)(V:∀c,k c->c.heap[D]?=some (.cells #[dC X,dC b] 201 (0,0))/\c.heap[w.heap.size]?=some g)(Y:∀o,l o->o.heap[D]?=some (.cells #[dC X,dC b] 201 (0,0))/\o.heap[w.heap.size]?=some g):Calls prog 71 #[dC D,Value.agg #[.int .i64 14,.int .i64 j,.int .i64 t,z,.string f,.string v,.bool p,.int .i64 h,.int .i64 A,C,B,.string r,.int .i64 q,.int .i64 u,.int .i64 g2,.string s,.int .i64 x,.int .i64 y]] w fun e w'=>e= .returned (.bool true)/\l w':=by
 have K:=cA J;have L:Hid (∀W:World,W.heap[D]?=some (.cells #[dC X,dC b] 201 (0,0))/\W.heap[w.heap.size]?=some g->W.cell? ⟨D,0,none⟩=some (.pointer (some ⟨X,0,none⟩))/\W.cell? ⟨D,1,none⟩=some (.pointer (some ⟨b,0,none⟩))/\W.cell? ⟨w.heap.size,0,none⟩=some (.int .i64 14)/\W.cell? ⟨w.heap.size,16,none⟩=some (.int .i64 x)/\D<W.heap.size/\w.heap.size<W.heap.size):=fun W I=>by
  have d:=I.2;rw[i]at d;exact⟨cn I.1 0,cn I.1 1,cn d 0,cn d 16,cA I.1,cA d⟩
 have E:(w.alloc g).heap[D]?=some (.cells #[dC X,dC b] 201 (0,0))/\(w.alloc g).heap[w.heap.size]?=some g:=⟨(cC _ _ _ K).trans J,du w g⟩
 obtain⟨d0,d1,o0,M,l1,l2⟩:=L.out _ E;have H1:=cb T;have H2:=cb U;have K1:=cb V;have K2:=cb Y;clear T U V Y J E;unfold dC at*;go_enter nG,mG;go_wp2_with fail
 rw[<-i];clear i;generalize w.alloc g=w0 at*;go_region_held3 (fun F=>F.cell? ⟨D,0,none⟩=some (.pointer (some ⟨X,0,none⟩))/\F.cell? ⟨w.heap.size,16,none⟩=some (.int .i64 x)) (go_keep) (first
  |(go_at_call 33;refine H1.out.mono ?_;rintro e c ⟨rfl,m⟩;obtain⟨d10,d11,N,H,O,P⟩:=L.out _ (K1.out _ m);have Q:=cb m;clear m d0 d1 o0 M l1 l2)
  |fail)
 have HQ:=cb (H2.out c Q.out);go_wp2_with fail
 go_region_held3 (fun F=>F.cell? ⟨D,1,none⟩=some (.pointer (some ⟨b,0,none⟩))/\F.cell? ⟨w.heap.size,16,none⟩=some (.int .i64 x)) (go_keep) (first
  |(go_at_call 117;refine HQ.out.mono ?_;rintro e o ⟨rfl,n⟩;obtain⟨d20,d21,aa,Z,ab,ac⟩:=L.out _ (K2.out _ n);have R:=cb n;clear n d10 d11 N H O P)
  |fail)
 go_wp2_with (first|(go_at_call 99;refine(qp _ _).mono ?_;rintro e w3 ⟨rfl,S⟩;subst S)|fail)
 go_ret;exact⟨rfl,R.out⟩
theorem wh (i:g= .cells #[.int .i64 15,.int .i64 j,.int .i64 t,z,.string f,.string v,.bool p,.int .i64 h,.int .i64 A,C,B,.string r,.int .i64 q,.int .i64 u,.int .i64 g2,.string s,.int .i64 x,.int .i64 y] 95)(J:w.heap[D]?=some (.cells #[dC X,dC b] 201 (0,0)))(T:Calls prog 34 #[dC X,.int .i64 x] (w.alloc g).drew fun e c=>e= .returned (.int .i64 a)/\k c)(U:∀c,k c->Calls prog 118 #[dC b,.int .i64 x] c.drew fun e o=>e= .returned (.int .i64 a)/\l o)(V:∀c,k c->c.heap[D]?=some (.cells #[dC X,dC b] 201 (0,0))/\c.heap[w.heap.size]?=some g)(Y:∀o,l o->o.heap[D]?=some (.cells #[dC X,dC b] 201 (0,0))/\o.heap[w.heap.size]?=some g):Calls prog 71 #[dC D,Value.agg #[.int .i64 15,.int .i64 j,.int .i64 t,z,.string f,.string v,.bool p,.int .i64 h,.int .i64 A,C,B,.string r,.int .i64 q,.int .i64 u,.int .i64 g2,.string s,.int .i64 x,.int .i64 y]] w fun e w'=>e= .returned (.bool true)/\l w':=by
 have K:=cA J;have L:Hid (∀W:World,W.heap[D]?=some (.cells #[dC X,dC b] 201 (0,0))/\W.heap[w.heap.size]?=some g->W.cell? ⟨D,0,none⟩=some (.pointer (some ⟨X,0,none⟩))/\W.cell? ⟨D,1,none⟩=some (.pointer (some ⟨b,0,none⟩))/\W.cell? ⟨w.heap.size,0,none⟩=some (.int .i64 15)/\W.cell? ⟨w.heap.size,16,none⟩=some (.int .i64 x)/\D<W.heap.size/\w.heap.size<W.heap.size):=fun W I=>by
  have d:=I.2;rw[i]at d;exact⟨cn I.1 0,cn I.1 1,cn d 0,cn d 16,cA I.1,cA d⟩
 have E:(w.alloc g).heap[D]?=some (.cells #[dC X,dC b] 201 (0,0))/\(w.alloc g).heap[w.heap.size]?=some g:=⟨(cC _ _ _ K).trans J,du w g⟩
 obtain⟨d0,d1,o0,M,l1,l2⟩:=L.out _ E;have H1:=cb T;have H2:=cb U;have K1:=cb V;have K2:=cb Y;clear T U V Y J E;unfold dC at*;go_enter nG,mG;go_wp2_with fail
 rw[<-i];clear i;generalize w.alloc g=w0 at*;go_region_held3 (fun F=>F.cell? ⟨D,0,none⟩=some (.pointer (some ⟨X,0,none⟩))/\F.cell? ⟨w.heap.size,16,none⟩=some (.int .i64 x)) (go_keep) (first
  |(go_at_call 34;refine H1.out.mono ?_;rintro e c ⟨rfl,m⟩;obtain⟨d10,d11,N,H,O,P⟩:=L.out _ (K1.out _ m);have Q:=cb m;clear m d0 d1 o0 M l1 l2)
  |fail)
 have HQ:=cb (H2.out c Q.out);go_wp2_with fail
 go_region_held3 (fun F=>F.cell? ⟨D,1,none⟩=some (.pointer (some ⟨b,0,none⟩))/\F.cell? ⟨w.heap.size,16,none⟩=some (.int .i64 x)) (go_keep) (first
  |(go_at_call 118;refine HQ.out.mono ?_;rintro e o ⟨rfl,n⟩;obtain⟨d20,d21,aa,Z,ab,ac⟩:=L.out _ (K2.out _ n);have R:=cb n;clear n d10 d11 N H O P)
  |fail)
 go_wp2_with (first|(go_at_call 99;refine(qp _ _).mono ?_;rintro e w3 ⟨rfl,S⟩;subst S)|fail)
 go_ret;exact⟨rfl,R.out⟩
end
theorem KW (p:Value)(b g:Int)(h:Value)(c i:ByteArray)(j:Bool)(d k:Int)(l m:Value)(n:ByteArray)(o q g2:Int)(s:ByteArray)(x y:Int)(w:World)(a:World->Prop)(f:Calls prog 67 #[p,.int .i64 x] (w.alloc (.cells #[.int .i64 4,.int .i64 b,.int .i64 g,h,.string c,.string i,.bool j,.int .i64 d,.int .i64 k,l,m,.string n,.int .i64 o,.int .i64 q,.int .i64 g2,.string s,.int .i64 x,.int .i64 y] 95)) fun e w'=>e= .returned (.bool true)/\a w'):Calls prog 40 #[p,Value.agg #[.int .i64 4,.int .i64 b,.int .i64 g,h,.string c,.string i,.bool j,.int .i64 d,.int .i64 k,l,m,.string n,.int .i64 o,.int .i64 q,.int .i64 g2,.string s,.int .i64 x,.int .i64 y]] w fun e w'=>e= .returned (.bool true)/\a w':=by
 have r:=cb f;go_enter qH,pM;go_wp2_with fail
 refine r.out.mono ?_;rintro e v ⟨rfl,t⟩;have u:=cb t;go_wp2;go_ret;exact⟨rfl,u.out⟩
theorem tu {w:World}{k e n j:Nat}{v u:Value}{i:List Value}(h:Row w k e 1 v n i)(a:i[j]?=some u):∃g c,v= .slice (some ⟨g,0,none⟩) n c/\n<=c/\w.cell? ⟨g,j,none⟩=some u:=by
 obtain⟨q,⟨_,r⟩|⟨g,b,l,m,_,o,d,_,p⟩⟩:=h
 .have:=(cq.1 a).1;omega
 .refine⟨g,b,m,d,(cn o j).trans ?_⟩;have f:j<n*1:=by grind
  rw[<-p,dx f]at a;simpa using a
theorem AY (k:Int)(h:5<=k)(i:k<=7)(b j:Int)(l:Value)(d m:ByteArray)(n:Bool)(f p:Int)(q r:Value)(t:ByteArray)(u v g2:Int)(s:ByteArray)(x y:Int)(w:World)(B c:Nat)(a:Option Addr)(z:w.cell? ⟨B,0,none⟩=some (.slice a 0 c)):Calls prog 40 #[.pointer (some ⟨B,0,none⟩),Value.agg #[.int .i64 k,.int .i64 b,.int .i64 j,l,.string d,.string m,.bool n,.int .i64 f,.int .i64 p,q,r,.string t,.int .i64 u,.int .i64 v,.int .i64 g2,.string s,.int .i64 x,.int .i64 y]] w fun e w'=>e= .returned (.bool true)/\Below w.heap.size w w':=by
 have A:Hid (∀o,Below w.heap.size w (w.alloc o)):=fun o=>(ct _ _).alloc (PC _) o
 have C:¬k<=3:=by omega
 have g:1<=k:=by omega
 have D:¬9<=k:=by omega
 have E:=ey w ⟨B,0,none⟩ z;go_wp2;go_ret;exact⟨rfl,A.out _⟩
theorem qN {w:World}{m e a n j:Nat}{v u:Value}{i:List Value}(h:Row w m e a v n i)(k:i[j]?=some u):∃g c,v= .slice (some ⟨g,0,none⟩) n c/\n<=c/\g<w.heap.size/\w.cell? ⟨g,j,none⟩=some u:=by
 have s:=h.1;have b:j<n*a:=by grind
 obtain⟨_,⟨_,o⟩|⟨g,d,p,q,_,l,f,_,r⟩⟩:=h
 .rw[o]at b;omega
 .refine⟨g,d,q,f,cA l,(cn l j).trans ?_⟩;rw[<-r,dx b]at k;simpa using k
theorem Kh:∀(n:Nat) (id:Int) (k q:Nat),k<n->q<6->(marks n id)[k*6+q]?=[Value.int .i64 0,.slice none 0 0,.string ⟨#[]⟩,.string ⟨#[]⟩,.bool false,.int .i64 id][q]?:=by
 intro n;induction n with
 |zero=>omega
 |succ n a=>
  intro id k q d b;have e:marks (n+1) id=[Value.int .i64 0,.slice none 0 0,.string ⟨#[]⟩,.string ⟨#[]⟩,.bool false,.int .i64 id]++marks n id:=by unfold marks;rw[pI,lP]
  rw[e];cases k with
  |zero=>rw[cW (by simp;omega)];simp
  |succ k=>
   rw[dg (by simp;omega)];have c:(k+1)*6+q- [Value.int .i64 0,.slice none 0 0,.string ⟨#[]⟩,.string ⟨#[]⟩,.bool false,.int .i64 id].length=k*6+q:=by simp;omega
   rw[c];exact a id k q (by omega) b
theorem IX (k:Int)(ah:9<=k)(ae:k<=15)(b p:Int)(q:Value)(d r:ByteArray)(t:Bool)(f u:Int)(z A:Value)(C:ByteArray)(D E g2:Int)(s:ByteArray)(x y:Int)(w:World)(B g i P:Nat)(Q:Value)(cB:w.cell? ⟨B,1,none⟩=some (.slice (some ⟨g,0,none⟩) i P))(T:0<i)(af:i<=P)(ai:i<=1000000000000)(L:w.cell? ⟨g,nN b i,none⟩=some Q)(l:World->Prop)(n:Calls prog 71 #[Q,Value.agg #[.int .i64 k,.int .i64 b,.int .i64 p,q,.string d,.string r,.bool t,.int .i64 f,.int .i64 u,z,A,.string C,.int .i64 D,.int .i64 E,.int .i64 g2,.string s,.int .i64 x,.int .i64 y]] (w.alloc (.cells #[.int .i64 k,.int .i64 b,.int .i64 p,q,.string d,.string r,.bool t,.int .i64 f,.int .i64 u,z,A,.string C,.int .i64 D,.int .i64 E,.int .i64 g2,.string s,.int .i64 x,.int .i64 y] 95)).drew fun e w'=>e= .returned (.bool true)/\l w')(o:∀w',l w'->w'.cell? ⟨B,1,none⟩=some (.slice (some ⟨g,0,none⟩) i P)/\w'.cell? ⟨g,nN b i,none⟩=some Q/\w'.heap[w.heap.size]?=some (.cells #[.int .i64 k,.int .i64 b,.int .i64 p,q,.string d,.string r,.bool t,.int .i64 f,.int .i64 u,z,A,.string C,.int .i64 D,.int .i64 E,.int .i64 g2,.string s,.int .i64 x,.int .i64 y] 95 (0,0))):Calls prog 40 #[.pointer (some ⟨B,0,none⟩),Value.agg #[.int .i64 k,.int .i64 b,.int .i64 p,q,.string d,.string r,.bool t,.int .i64 f,.int .i64 u,z,A,.string C,.int .i64 D,.int .i64 E,.int .i64 g2,.string s,.int .i64 x,.int .i64 y]] w fun e w'=>e= .returned (.bool true)/\l w':=by
 have HR:=cb n;have HP:=cb o;have hj:=td b T;have U:=cb (fun W=>Db b i W);have aj:¬k<=3:=by omega
 have ag:1<=k:=by omega
 have al:5<=k:=by omega
 have am:¬k<=7:=by omega
 have V:B<w.heap.size:=ey w ⟨B,1,none⟩ cB;have X:g<w.heap.size:=ey w ⟨g,_,none⟩ L;generalize Y:nN b i=j at*;clear n o Y;go_enter qH,pM;go_wp2_with fail
 have an:(0:Int)<=(j:Int):=by omega
 have ao:(j:Int)<(i:Int):=by omega
 obtain⟨I,F⟩:∃I:List Value,I=[.int .i64 k,.int .i64 b,.int .i64 p,q,.string d,.string r,.bool t,.int .i64 f,.int .i64 u,z,A,.string C,.int .i64 D,.int .i64 E,.int .i64 g2,.string s,.int .i64 x,.int .i64 y]:=⟨_,rfl⟩
 have HI:Hid ((prog.info? 95).map (·.size)=some I.length):=by rw[F];exact(show(prog.info? 95).map (·.size)=some 18 by kernel_rfl)
 have Z:=cb (show Value.agg I.toArray=Value.agg #[.int .i64 k,.int .i64 b,.int .i64 p,q,.string d,.string r,.bool t,.int .i64 f,.int .i64 u,z,A,.string C,.int .i64 D,.int .i64 E,.int .i64 g2,.string s,.int .i64 x,.int .i64 y]by rw[F]);have J:Hid (∀W:World,W.heap[w.heap.size]?=some (.cells #[.int .i64 k,.int .i64 b,.int .i64 p,q,.string d,.string r,.bool t,.int .i64 f,.int .i64 u,z,A,.string C,.int .i64 D,.int .i64 E,.int .i64 g2,.string s,.int .i64 x,.int .i64 y] 95 (0,0))->W.rangeAt w.heap.size 0 I/\W.cell? ⟨w.heap.size,1,none⟩=some (.int .i64 b)):=fun W hW=>⟨by rw[F];intro m v hv;rw[eB];refine(cn hW m).trans ?_;rw[eQ];exact hv,cn hW 1⟩
 have M:=J.out _ (du w _);have N:=(cC w (.cells #[.int .i64 k,.int .i64 b,.int .i64 p,q,.string d,.string r,.bool t,.int .i64 f,.int .i64 u,z,A,.string C,.int .i64 D,.int .i64 E,.int .i64 g2,.string s,.int .i64 x,.int .i64 y] 95) B V)
 have aa:=(cS (a:=⟨B,1,none⟩) N).trans cB;have O:=(cC w (.cells #[.int .i64 k,.int .i64 b,.int .i64 p,q,.string d,.string r,.bool t,.int .i64 f,.int .i64 u,z,A,.string C,.int .i64 D,.int .i64 E,.int .i64 g2,.string s,.int .i64 x,.int .i64 y] 95) g X)
 have ab:=(cS (a:=⟨g,j,none⟩) O).trans L;clear F N O;generalize w.alloc (.cells #[.int .i64 k,.int .i64 b,.int .i64 p,q,.string d,.string r,.bool t,.int .i64 f,.int .i64 u,z,A,.string C,.int .i64 D,.int .i64 E,.int .i64 g2,.string s,.int .i64 x,.int .i64 y] 95)=w0 at*;refine wp_region_held_drew (S:=fun R=>R.cell? ⟨B,1,none⟩=some (.slice (some ⟨g,0,none⟩) i P)/\R.cell? ⟨w.heap.size,1,none⟩=some (.int .i64 b)/\R.cell? ⟨g,j,none⟩=some Q/\Hid (R.rangeAt w.heap.size 0 I)) (by kernel_rfl) ⟨aa,M.2,ab,M.1⟩ (fun c=>?_);refine tk 0 ?_;refine tk 1 ?_;refine tk 2 ?_;refine tk 3 ?_;refine tk 4 ?_;refine tk 5 ?_;refine tk 6 ?_;refine tk 7 ?_;refine tk 8 ?_
 refine tk 9 ?_;refine tk 10 ?_;refine wpAnyH_take (i:=14) (v:=_) (fM (fM (fM (fM (fM (fM (fM (fM (fM (fM (fM (fM (fM (fM Au)))))))))))))) (by kernel_rfl) (by kernel_rfl) (by kernel_rfl) (fun _ _ _ h=>h) (yieldsIf_load_mid (by rfl) 95 _ rfl w.heap.size 0 rfl I _ (fun w' ac=>ac.2.2.2.out) jw rfl HI.out) (by assumption) ?_;try simp only[Act.put,cT,dk,dr]
 refine rd 11 (fun K H=>?_);go_simp;go_at_call 69;refine(U.out _).mono ?_;rintro e w' ⟨rfl,rfl⟩;go_wp2_with fail
 refine H.out _ _ c (fun a=>?_);clear H K c;have c:=a;clear a;try simp only[Act.put,cT,dk,dr]
 refine tk 12 ?_;refine tk 13 ?_;refine rd 15 (fun K H=>?_);go_simp;rw[Z.out];go_at_call 71;refine HR.out.mono ?_;rintro e w1 ⟨rfl,hp⟩;have S:=HP.out w1 hp;have ad:=cb hp;clear hp;go_wp2_with fail
 refine H.out _ _ ⟨S.1,(J.out _ S.2.2).2,S.2.1,(J.out _ S.2.2).1⟩ (fun a=>?_);clear H K c;have c:=a;clear a;try simp only[Act.put,cT,dk,dr]
 refine rd 16 (fun K H=>?_);go_simp;refine H.out _ _ c (fun a=>?_);clear H K c;clear a;try simp only[Act.put,cT,dk,dr]
 refine wpAnyH_done (by kernel_rfl) ?_ _;go_wp2;go_ret;exact⟨rfl,ad.out⟩
theorem Me (p:Value)(d pt a:Int)(w:World)(j:mJ d pt a=false):Calls prog 70 #[p,.agg #[.int .i64 d,.int .i64 pt,.int .i64 a]] w fun e w'=>e= .returned (.bool true)/\Below w.heap.size w w':=by
 have k:=cb (fun W=>NC d pt a W j);have l:=cb (fun W=>Mx d pt a W j);have m:Hid (∀o W,Below (w.alloc o).heap.size (w.alloc o) W->Below w.heap.size w W):=fun o W h=>((ct _ _).alloc (PC _) o).trans (h.mono (by simp))
 go_enter func70,ntmps70;go_wp2_with fail
 refine(k.out _).mono ?_;rintro e n ⟨rfl,b⟩;have q:=(b.cell (p:=⟨w.heap.size,0,none⟩) (by simp)).trans (cn (du w _) 0);have r:=(b.cell (p:=⟨w.heap.size,1,none⟩) (by simp)).trans (cn (du w _) 1);have s:=(b.cell (p:=⟨w.heap.size,2,none⟩) (by simp)).trans (cn (du w _) 2);have c:=cb (m.out _ _ b);go_wp2_with fail
 refine(l.out _).mono ?_;rintro e t ⟨rfl,f⟩;have g:=cb (c.out.trans (f.mono c.out.size));go_wp2_with (first|(refine(qp _ _).mono ?_;rintro e u ⟨rfl,i⟩;subst i))
 all_goals go_ret
 all_goals exact⟨rfl,g.out⟩
theorem LN:∃i,prog.info? 154=some i/\i.zero=some (.pointer none)/\i.size=1/\i.bytes=8:=by
 have h:(prog.info? 154).map (fun i=>(i.zero,i.size,i.bytes))=some (some (.pointer none),1,8):=by kernel_rfl
 obtain⟨i,b,a⟩:=dX.1 h;simp only[gi]at a;exact⟨i,b,a.1,a.2.1,a.2.2⟩
def lu (f:Nat->Nat):Nat->Nat
 |0=>0
 |n+1=>lu f n+f n
theorem Fs (f:Nat->Nat):∀{a b:Nat},a<=b->lu f a<=lu f b:=by
 intro a b h;induction b with
 |zero=>rw[Nat.le_zero.1 h];exact PC _
 |succ b c=>
  rcases Nat.lt_or_eq_of_le h with h|h
  .show lu f a<=lu f b+f b;omega
  .rw[h];exact PC _
structure Bd (w:World)(b o N:Nat)(kf:Nat->Int)(csf:Nat->List Value)(bk:Nat->Nat):Prop where
 lt:b<w.heap.size
 ops:∀j,j<N->(csf j).length=18/\w.cell? ⟨b,o+j*18,none⟩=some (.int .i64 (kf j))/\w.rangeAt b (o+j*18) (csf j)/\Bc w (kf j) (.agg (csf j).toArray)
 sz:∀j,j<N->∃s:ByteArray,(csf j)[15]?=some (.string s)/\s.size<=bk j
def EV (d a e:Int)(f:Value)(b g:ByteArray)(h:Bool)(c i:Int)(j k:Value)(l:ByteArray)(m n g2:Int)(s:ByteArray)(x y:Int):Obj:= .cells #[.int .i64 d,.int .i64 a,.int .i64 e,f,.string b,.string g,.bool h,.int .i64 c,.int .i64 i,j,k,.string l,.int .i64 m,.int .i64 n,.int .i64 g2,.string s,.int .i64 x,.int .i64 y] 95
theorem eR (w:World):Below w.heap.size w w.drew:=(ct _ _).drew
theorem qn (w:World)(a:Obj):Below w.heap.size w (w.alloc a).drew:=(cU).drew
theorem qq (w:World)(a:Obj):(w.alloc a).drew.heap[w.heap.size]?=some a:=du w a
theorem getNat {b:Type}{l:List b}{x:Int}(h:¬(x<0\/(l.length:Int)<=x)):∃(i:Nat) (a:b),x=(i:Int)/\l[i]?=some a:=by
 have c:x.toNat<l.length:=by omega
 exact⟨x.toNat,_,by omega,cp c⟩
theorem IY (p:Value)(b i:Int)(j:Value)(c k:ByteArray)(l:Bool)(d m:Int)(n o:Value)(q:ByteArray)(f g g2:Int)(s:ByteArray)(x y:Int)(w:World)(a:World->Prop)(h:Calls prog 70 #[p,.agg #[.int .i64 f,.int .i64 g,.int .i64 g2]] (w.alloc (.cells #[.int .i64 8,.int .i64 b,.int .i64 i,j,.string c,.string k,.bool l,.int .i64 d,.int .i64 m,n,o,.string q,.int .i64 f,.int .i64 g,.int .i64 g2,.string s,.int .i64 x,.int .i64 y] 95)) fun e w'=>e= .returned (.bool true)/\a w'):Calls prog 40 #[p,Value.agg #[.int .i64 8,.int .i64 b,.int .i64 i,j,.string c,.string k,.bool l,.int .i64 d,.int .i64 m,n,o,.string q,.int .i64 f,.int .i64 g,.int .i64 g2,.string s,.int .i64 x,.int .i64 y]] w fun e w'=>e= .returned (.bool true)/\a w':=by
 have r:=cb h;go_enter qH,pM;go_wp2_with fail
 refine r.out.mono ?_;rintro e v ⟨rfl,t⟩;have u:=cb t;go_wp2;go_ret;exact⟨rfl,u.out⟩
theorem Qy (k:Int)(i:9<=k)(g:k<=15)(b j:Int)(l:Value)(d m:ByteArray)(n:Bool)(f p:Int)(q r:Value)(t:ByteArray)(u v g2:Int)(s:ByteArray)(x y:Int)(w:World)(B c:Nat)(a:Option Addr)(z:w.cell? ⟨B,1,none⟩=some (.slice a 0 c)):Calls prog 40 #[.pointer (some ⟨B,0,none⟩),Value.agg #[.int .i64 k,.int .i64 b,.int .i64 j,l,.string d,.string m,.bool n,.int .i64 f,.int .i64 p,q,r,.string t,.int .i64 u,.int .i64 v,.int .i64 g2,.string s,.int .i64 x,.int .i64 y]] w fun e w'=>e= .returned (.bool true)/\Below w.heap.size w w':=by
 have A:Hid (∀o,Below w.heap.size w (w.alloc o)):=fun o=>(ct _ _).alloc (PC _) o
 have C:¬k<=3:=by omega
 have h:1<=k:=by omega
 have D:5<=k:=by omega
 have E:¬k<=7:=by omega
 have F:=ey w ⟨B,1,none⟩ z;go_wp2;go_ret;exact⟨rfl,A.out _⟩
namespace Al
variable {c B p:Nat}{F S:Nat->Prop}{W:World}{n o k f m l:Value}{rs:List vN}{M:List xA}{N:List zo}
theorem Hg {w w':World}(h:tU w w' c F):jk w w':=fun b Z a=>h.kept b Z 95 _ a (by decide) (by decide) (by decide) (by decide) (by decide) (by decide)
theorem NL {a:World}(h:nF W c n rs)(e:tU W a c F):nF a c n rs:=
 h.keep (fun b Z T d f=>(e.kept b Z T _ d (by grind) (by omega) (by omega) (by omega) (by grind) (by omega)).trans d.symm)
theorem jz.OA (h:jz W c B S n o M N p k f m l)(d:Value):jz (W.setCell ⟨B,0,none⟩ d) c B S d o M N p k f m l:=by
 have i:∀(b:Nat) (Z:Array Value) (T:Nat),W.heap[b]?=some (.cells Z T (0,0))->T≠87->(W.setCell ⟨B,0,none⟩ d).heap[b]?=W.heap[b]?:=fun b Z T a q=>cz _ _ _ _ (fun e=>by rw[show b=B from e,h.wd]at a;cases a;exact q rfl)
 exact⟨(dh (i:=0) h.wd _).trans rfl,h.ge,h.cs.other (fun g Z _ a _=>i g Z 28 a (by decide)),h.cm.other (fun g Z _ a _=>i g Z 3 a (by decide)),h.ss.other (fun g Z _ a _=>i g Z 34 a (by decide)),h.sm.other (fun g Z _ a _=>i g Z 9 a (by decide)),
  fun e j=>⟨(h.tk e j).1.other (fun g Z _ a _=>i g Z 9 a (by decide)),(h.tk e j).2⟩,fun e j=>⟨(h.nk e j).1.other (fun g Z _ a _=>i g Z 36 a (by decide)),(h.nk e j).2⟩,h.KP⟩
theorem Kz {w:World}{d:Int}{q:Value}{A:Obj}(h:nF W c n rs)(hO:jz W c B S n o M N p k f m l)(hd:d=1\/d=2\/d=3)(z:c<=W.heap.size)(E:Row w c 151 1 q (rs.length+1) ((rs.map fun r=>Value.pointer (some ⟨r.P,0,none⟩))++[.pointer (some ⟨W.heap.size+2,0,none⟩)]))(P:((Bf W d).alloc A).grownBy w n.ownBlock):jz (w.setCell ⟨B,0,none⟩ q) c B S q o M N p k f m l/\nF (w.setCell ⟨B,0,none⟩ q) c q (rs++[⟨W.heap.size+2,W.heap.size,none,W.heap.size+1,d,AU⟩])/\Below c W (w.setCell ⟨B,0,none⟩ q)/\jk W (w.setCell ⟨B,0,none⟩ q)/\w.heap[B]?=some (.cells #[n,o,k,f,m,l,.int .i64 (p:Int)] 87 (0,0))/\(∀b,b<W.heap.size->b≠B->some b≠n.ownBlock->(w.setCell ⟨B,0,none⟩ q).heap[b]?=W.heap[b]?):=by
 have s:Below W.heap.size W ((Bf W d).alloc A):=((cU.alloc (by simp) _).alloc (by simp;omega) _).alloc (by simp;omega) _;have n1:((Bf W d).alloc A).heap[W.heap.size]?=some (BE (uL d) (.slice none 0 0) 0 false false):=dI (dI (dI (du W _) _) _) _;have n2:((Bf W d).alloc A).heap[W.heap.size+1]?=some (mO d AU):=dI (dI (fD (by simp)) _) _;have n3:((Bf W d).alloc A).heap[W.heap.size+2]?=some (.cells #[.pointer (some ⟨W.heap.size,0,none⟩),.pointer (some ⟨W.heap.size+1,0,none⟩)] 193 (0,0)):=dI (fD (by simp)) _;have aa:=s.size;generalize (Bf W d).alloc A=W4 at*;have v:=h.row.other (fun g Z _ u _=>s.block g (cA u))
 have F:=hO.below s;have h4:=h.below s;have L:∀(b:Nat) (Z:Array Value) (T:Nat),W4.heap[b]?=some (.cells Z T (0,0))->T≠151->w.heap[b]?=some (.cells Z T (0,0)):=fun b Z T t D=>(P.block b (cA t) (jA v t D)).trans t
 have Q:=L B _ 87 F.wd (by decide);have H:∀(b:Nat) (Z:Array Value) (T:Nat),W4.heap[b]?=some (.cells Z T (0,0))->T≠151->T≠87->(w.setCell ⟨B,0,none⟩ q).heap[b]?=some (.cells Z T (0,0)):=fun b Z T t D ab=>fV (L b Z T t D) (fun e=>by grind)
 have R:=F.keep (fun b Z T u D=>(L b Z T u (by omega)).trans u.symm) (fun b Z T u D _=>(L b Z T u (by omega)).trans u.symm);refine⟨R.OA q,⟨?_,fun r hr=>?_,fun i j U O V hi hj=>?_⟩,?_,fun b Z t=>H b Z 95 ((s.block b (cA t)).trans t) (by decide) (by decide),Q,fun b t X Y=>(cz _ _ _ _ (fun e=>X e)).trans ((P.block b (by omega) Y).trans (s.block b t))⟩
 .rw[cI,dF];exact E.other (fun g Z _ u _=>cz _ _ _ _ (fun e=>by grind))
 .rcases cr.1 hr with hr|hr
  .exact(h4.all r hr).keep (fun b Z T u D=>(H b Z T u (by omega) (by omega)).trans u.symm)
  .rw[gl]at hr;subst hr;refine⟨H _ _ 193 n3 (by decide) (by decide),⟨⟨.slice none 0 0,0,H _ _ 134 n1 (by decide) (by decide),⟨⟨[],dv _ _ _ _,PC _,rfl,by simp⟩,rfl⟩,.inl rfl⟩,by simp⟩,⟨H _ _ 195 n2 (by decide) (by decide),KU⟩,hd,z,Nat.le_succ_of_le z,fun b t=>by cases t⟩
 .have I:∀(a:Nat) (x:vN),rs[a]?=some x->x.D<W.heap.size/\x.Y<W.heap.size:=fun a x y=>by
   have J:=h.all x (cu y);obtain⟨Z,u⟩:=J.rd.dO;exact⟨cA u,cA J.rf.at_⟩
  have look:∀(a:Nat) (x:vN),(rs++[⟨W.heap.size+2,W.heap.size,none,W.heap.size+1,d,AU⟩])[a]?=some x->rs[a]?=some x\/(a=rs.length/\x=⟨W.heap.size+2,W.heap.size,none,W.heap.size+1,d,AU⟩):=fun a x y=>by
   by_cases hl:a<rs.length
   .rw[cW hl]at y;exact .inl y
   .rw[dg (by omega)]at y;have ac:a-rs.length<1:=by grind
    have h0:a-rs.length=0:=by omega
    rw[h0]at y;simp at y;exact .inr ⟨by omega,y.symm⟩
  rcases look i U hi with K|⟨ei,rfl⟩
  .rcases look j O hj with C|⟨ej,rfl⟩
   .exact h.apart i j U O V K C
   .have:=I i U K;exact⟨by grind,by grind,fun b _ e=>by cases e⟩
  .rcases look j O hj with C|⟨ej,rfl⟩
   .have:=I j O C;exact⟨by grind,by grind,fun b t=>by cases t⟩
   .omega
 .exact((s.mono z).trans (rA v P (by omega))).setCell (p:=⟨B,0,none⟩) hO.ge _
theorem Cw (B p c:Nat)(d:Int)(S:Nat->Prop)(n o k f m l:Value)(M:List xA)(N:List zo)(rs:List vN)(w:World)(D:d=1\/d=2\/d=3)(h:nF w c n rs)(z:jz w c B S n o M N p k f m l)(E:c<=w.heap.size)(V:rs.length<=1000000000000):Calls prog 67 #[.pointer (some ⟨B,0,none⟩),.int .i64 d] w fun e w'=>e= .returned (.bool true)/\∃q u,u.d=d/\u.s=AU/\jz w' c B S q o M N p k f m l/\nF w' c q (rs++[u])/\Below c w w'/\jk w w'/\(w.heap.size<=u.D/\w.heap.size<=u.Y/\u.hb=none)/\(∀b,b<w.heap.size->b≠B->some b≠n.ownBlock->w'.heap[b]?=w.heap[b]?):=by
 have X:=cb (sL d w D);have Y:=cb (fun W=>yV d W D);have HS:=cb (fun W5 q A a b=>Kz (w:=W5) (q:=q) (A:=A) h z D E a b);have P:=cn z.wd 0;have cf:=dN z.wd;have aa:=cA z.wd;obtain⟨v,F,H,I,J⟩:=LM;have C:=cb (cd F (cd H (cd I J)));have x:Hid (∀A,Row ((Bf w d).alloc A) c 151 1 n rs.length (rs.map fun r=>Value.pointer (some ⟨r.P,0,none⟩))):=fun A=>h.row.other (fun g Z _ Q _=>dI (dI (dI (dI Q _) _) _) _ |>.trans Q.symm)
 go_enter func67,ntmps67;go_wp2_with fail
 refine X.out.mono ?_;rintro e w1 ⟨rfl,ab⟩;go_wp2_with fail
 refine(Y.out _).mono ?_;rintro e w2 ⟨rfl,ac⟩;have R:B<w.heap.size+1:=by omega
 have T:(Bf w d).heap.size=w.heap.size+1+1+1:=by unfold Bf;simp
 have ad:=V;generalize ae:rs.length=rn at*;go_wp2_with (first
  |(refine(qp _ _).mono ?_;rintro e w3 ⟨rfl,K⟩;subst K)
  |(at_builtin;refine fW _ rfl _ _ _ rfl c 151 v (.pointer none) 1 8 underlying82 C.out.1 C.out.2.1 C.out.2.2.1 C.out.2.2.2 rfl (by omega) n rn (rs.map fun r=>Value.pointer (some ⟨r.P,0,none⟩)) rfl (by exact x.out _) ⟨w.heap.size+1+1+1,0,none⟩ 1 1 [.pointer (some ⟨w.heap.size+1+1,0,none⟩)] rfl rfl (World.news_of_block (fD (by simp))) (by simp[Value.oneCell']) (by omega) (by unfold maxLen;omega) (by omega) (by simp;omega) ?_;intro q w9 j U L y;obtain⟨ua,uc,O⟩:=j.form;subst O;have s:=HS.out w9 _ _ j U;have i:=cb s;have t:=s.2.2.2.2.1;have P:=cn t 0;have cf:=dN t;simp at P;clear j U L y s t)
  |fail)
 go_ret;exact⟨rfl,_,_,rfl,rfl,i.out.1,i.out.2.1,i.out.2.2.1,i.out.2.2.2.1,⟨PC _,nE _,rfl⟩,i.out.2.2.2.2.2⟩
end Al
namespace Al
variable {l a:World}{F:Nat->Prop}{m:Nat}{r:vN}
def Jf (F:Nat->Prop)(w w':World):Prop:=(∀b,F b->w'.heap[b]?=w.heap[b]?)/\iT [201,137,241,154] w w'
def Jg (F:Nat->Prop)(w:World):Prop:=(∀b,F b->b<w.heap.size)/\∀(b:Nat) (Z:Array Value) (T:Nat) (f:Nat×Nat),F b->w.heap[b]?=some (.cells Z T f)->T≠87/\T≠34/\T≠36/\T≠28/\T≠3/\T≠151/\T≠193
def Nc (F:Nat->Prop)(r:vN):Prop:=¬F r.D/\¬F r.Y/\∀b,r.hb=some b->¬F b
theorem GP {w wr x:World}{t:Nat}{d:Int}{s C:St}(hF:Jg F w)(p:Nc F r)(y:Below w.heap.size w l)(q:PD l r.D r.hb t s)(D:iU l r.Y d C)(E:∀b,b<l.heap.size->b≠r.D->some b≠r.hb->b≠r.Y->a.heap[b]?=l.heap[b]?)(H:l.heap.size<=a.heap.size)(I:Below a.heap.size a wr)(k:tU wr x m F):Jf F w x:=by
 have c:∀(b:Nat) (o:Obj),w.heap[b]?=some o->b≠r.D->some b≠r.hb->b≠r.Y->wr.heap[b]?=some o:=fun b o g J K L=>by
  have i:=(y.block b (cA g)).trans g;have z:=(E b (cA i) J K L).trans i;exact(I.block b (cA z)).trans z
 refine⟨fun b g=>?_,fun b T Z f n S=>?_⟩
 .obtain⟨o,u⟩:∃o,w.heap[b]?=some o:=⟨_,dZ (hF.1 b g)⟩
  have j:=c b o u (fun e=>p.1 (e▸g)) (fun e=>p.2.2 b e.symm g) (fun e=>p.2.1 (e▸g));rw[u];cases o with
  |cells Z T f=>
   obtain⟨M,N,O,P,Q,_⟩:=hF.2 b Z T f g u;by_cases A:T=9
   .subst A;exact k.FP b Z f j g
   .exact k.kept b Z T f j M N A O P Q
  |_=>exact k.other b _ j (fun Z T f e=>by cases e)
 .have i:=(y.block b (cA n)).trans n;have v:T=201\/T=137\/T=241\/T=154:=by grind
  have B:=q.apart i (by omega) (by omega);have R:b≠r.Y:=fun e=>by
   have:=D.at_;rw[<-e,i]at this;cases this;rcases v with h|h|h|h<;>cases h
  have j:=c b _ n B.1 B.2 R;exact(k.kept b Z T f j (by grind) (by omega) (by omega) (by omega) (by grind) (by omega)).trans n.symm
theorem LF {f:World}{d B H i:Nat}{y I s t u w v:Value}{M:List xA}{N:List zo}{rs:List vN}{j:Option Nat}{s':St}{cs:List iO}(L:jz l m B (fun g=>g<d/\¬F g) y I M N H s t u w)(J:nF l m y rs)(K:rs[i]?=some r)(z:m<=l.heap.size)(O:hG f d f.heap.size v cs)(P:PD f r.D j (uL r.d) s')(Q:lN l r.hb j)(c:iV r.D r.hb l f)(R:iU a r.Y r.d s')(x:ie r.Y f a):jz a m B (fun g=>g<d/\¬F g) y I M N H s t u w/\nF a m y (rs.set i {r with hb:=j,s:=s'})/\hG a d f.heap.size v cs/\Below m l a/\jk l a/\(∀b,b<l.heap.size->b≠r.D->some b≠r.hb->b≠r.Y->a.heap[b]?=l.heap[b]?):=by
 have n:=J.all r (cu K);have S:=n.rf.Sh n.rd c;have o:∀(b T:Nat) (Z:Array Value),l.heap[b]?=some (.cells Z T (0,0))->T≠134->T≠5->T≠195->a.heap[b]?=l.heap[b]?:=fun b T Z p A C D=>(Gs n.rf n.rd c x p A C D).2.trans p.symm
 refine⟨L.keep (fun b Z T q E=>o b T Z q (by omega) (by omega) (by grind)) (fun b Z T q E _=>o b T Z q (by omega) (by omega) (by omega)),J.Pq K P Q c R x z,O.keep (fun b Z T q E _=>x.block b (cA q) (fun e=>?_)),?_,fun b Z p=>(o b 95 Z p (by decide) (by decide) (by decide)).trans p,fun b p A C D=>(x.block b (by have:=c.size;omega) D).trans (c.block b p A C)⟩
 .have:=S.at_;rw[<-e,q]at this;cases this;rcases E with h|h<;>cases h
 .have U:Below m l f:=⟨c.os,c.tape,c.output,c.size,fun k V=>c.block k (by omega) (by have:=n.Sr;omega) (fun e=>by have:=n.Ss k e.symm;omega)⟩
  exact U.trans (x.below n.Oa (by have:=c.size;omega))
def MJ (F:Nat->Prop)(w w':World)(m B i n h j k:Nat)(f l:Value)(rs:List vN)(r:vN)(s':St):Prop:=
 ∃M N b c d e a,jz w' m B (fun g=>g<w'.heap.size/\¬F g) f l M N (k+n+1) b c d e/\nF w' m f (rs.set i {r with hb:=a,s:=s'})/\M.length=h+4*n/\N.length=j+4/\Below m w w'/\jk w w'/\Jf F w w'/\lN w r.hb a
theorem Ir (F:Nat->Prop)(B nx m i n:Nat)(rv jv ah ai aj al:Value)(M:List xA)(N:List zo)(rs:List vN)(r:vN)(ay ck:Int)(kv:Value)(az cw:ByteArray)(ft:Bool)(aA ak:Int)(fv vv:Value)(wd:ByteArray)(g0 g1 g2:Int)(s:ByteArray)(x y:Int)(w:World)(hO:jz w m B (fun g=>g<w.heap.size/\¬F g) rv jv M N nx ah ai aj al)(hR:nF w m rv rs)(hi:rs[i]?=some r)(aS:m<=w.heap.size)(hn:(PU r.d r.s s.data.toList).1.length=n)(bb:r.s.held.length+s.size<=2000000)(hM:M.length<=4900000000000)(hN:N.length<=1000000000000)(aT:nx<=900000000000000)(aB:Jg F w)(aC:Nc F r):Calls prog 68 #[.pointer (some ⟨B,0,none⟩),.pointer (some ⟨r.P,0,none⟩),Value.agg #[.int .i64 5,.int .i64 ay,.int .i64 ck,kv,.string az,.string cw,.bool ft,.int .i64 aA,.int .i64 ak,fv,vv,.string wd,.int .i64 g0,.int .i64 g1,.int .i64 g2,.string s,.int .i64 x,.int .i64 y]] w fun e w'=>e= .returned (.bool true)/\MJ F w w' m B i n M.length N.length nx rv jv rs r (PU r.d r.s s.data.toList).2:=by
 obtain⟨C,R⟩:∃C,C=Obj.cells #[.int .i64 5,.int .i64 ay,.int .i64 ck,kv,.string az,.string cw,.bool ft,.int .i64 aA,.int .i64 ak,fv,vv,.string wd,.int .i64 g0,.int .i64 g1,.int .i64 g2,.string s,.int .i64 x,.int .i64 y] 95:=⟨_,rfl⟩
 have D:Below w.heap.size w (w.alloc C):=cU;have ab:(w.alloc C).cell? ⟨w.heap.size,15,none⟩=some (.string s):=by rw[R];exact cn (du w _) 15
 have am:(w.alloc C).heap[w.heap.size]?=some C:=du w _;have aD:(w.alloc C).heap.size=w.heap.size+1:=cF _ _;have aU:n<=2000000:=by have:=yc r.d r.s s;omega
 have t:=GQ r.d r.s s.data.toList;have aE:jz (w.alloc C) m B (fun g=>g<(w.alloc C).heap.size/\¬F g) rv jv M N nx ah ai aj al:=(hO.below D).more (fun g hg=>⟨by rw[aD];have:=hg.1;omega,hg.2⟩);have an:=hR.below D;have hr:=hR.all r (cu hi);have o:=an.all r (cu hi);have ac:m<=(w.alloc C).heap.size:=by omega
 have HF:=cb (LH r.D (uL r.d) r.d r.hb r.s s (w.alloc C).drew (MP hr.di) (o.rd.other rfl (fun b hb=>rfl)) (by omega));have aF:=cn o.pair 0;have aG:=cn o.pair 1;simp at aF aG;have ao:=cb o.pair;have ap:=cb o.rf;have E:=cb o.rd;have ad:Hid (∀W,iU W r.Y r.d r.s->Calls prog 108 #[.pointer (some ⟨r.Y,0,none⟩),.string s] W fun e w'=>∃v,e= .returned v/\ln w' W.heap.size v (PU r.d r.s s.data.toList).1/\iU w' r.Y r.d (PU r.d r.s s.data.toList).2/\ie r.Y W w'):=fun W S=>Dk r.Y r.d r.s s W hr.di S (by omega)
 have ae:=cb (fun(p a:World) (v:Value) (H:Option Nat) A1 R1 F1 Q Y2 T=>LF (f:=p) (a:=a) (v:=v) (j:=H) (s':=(PU r.d r.s s.data.toList).2) (cs:=(PU r.d r.s s.data.toList).1) aE an hi ac A1 R1 F1 Q Y2 T);have aV:=cb (D.mono aS);have U:=cb D;have V:=cb (cd aB aC);have aW:=cb (jk.dP D);have aq:Hid (∃Z,C= .cells Z 95 (0,0)):=⟨_,R⟩
 have I:=cb am;have aX:=cA o.pair;have aY:=cA am;clear D hO hR aE an hr o hi am aB aC;unfold MJ;go_enter func68,ntmps68;go_wp2_with fail
 rw[<-R];generalize w.alloc C=l at*;generalize bc:(PU r.d r.s s.data.toList).1=cs at*;generalize aH:(PU r.d r.s s.data.toList).2=s2 at*;have aZ:=cb aH;clear aH;go_region_held3 (fun W'=>W'.cell? ⟨r.P,0,none⟩=some (.pointer (some ⟨r.D,0,none⟩))/\W'.cell? ⟨w.heap.size,15,none⟩=some (.string s)) (go_keep) (first
  |(go_at_call 44;refine HF.out.mono ?_;rintro e p ⟨v,H,rfl,A1,R1,F1,Q⟩;obtain⟨la,lc,hv⟩:=Cp A1.Sa;rw[hn]at hv;subst hv;have ar:iV r.D r.hb l p:=⟨Q.os,Q.tape,Q.output,Q.size,Q.block⟩;have hp:=E.out.apart ao.out (by decide) (by decide);have X:=(Q.block r.P aX hp.1 hp.2).trans ao.out;have af:=cn X 0;have J:=cn X 1;simp at af J;have au:p.heap[w.heap.size]?=some C:=(aq.out.elim (fun Z hZ=>Q.block w.heap.size aY (E.out.apart (I.out.trans (congrArg some hZ)) (by decide) (by decide)).1 (E.out.apart (I.out.trans (congrArg some hZ)) (by decide) (by decide)).2)).trans I.out;have aI:p.cell? ⟨w.heap.size,15,none⟩=some (.string s):=(cS (a:=⟨w.heap.size,15,none⟩) (au.trans I.out.symm)).trans ab;have Y1:=ap.out.Sh E.out ar;have HG:=cb (ad.out p.drew ⟨Y1.at_,Y1.ok⟩);have u:Hid (hG p l.heap.size p.heap.size (.slice la n lc) cs/\PD p r.D H (uL r.d) s2/\lN l r.hb H/\iV r.D r.hb l p):=⟨A1,R1,F1,ar⟩;have z:=cb (cd Y1.at_ (cd X au));clear aF aG ab A1 R1 F1 Q ar Y1 hp X au)
  |fail)
 have aJ:=cA z.out.2.1;have aK:=cA z.out.2.2;clear HF ad;go_wp2_with fail
 go_region_held3 (fun W'=>W'.cell? ⟨r.P,1,none⟩=some (.pointer (some ⟨r.Y,0,none⟩))/\W'.cell? ⟨w.heap.size,15,none⟩=some (.string s)) (go_keep) (first
  |(go_at_call 108;refine HG.out.mono ?_;rintro e a ⟨v,rfl,A2,Y2,T⟩;obtain⟨ra,rc,hv⟩:=A2.form;rw[hn]at hv;subst hv;have Y:ie r.Y p a:=⟨T.os,T.tape,T.output,T.size,T.block⟩;have ag:=ae.out p a _ _ u.out.1 u.out.2.1 u.out.2.2.1 u.out.2.2.2 Y2 Y;have aL:r.P≠r.Y:=fun e=>(by have h:=z.out.1;rw[<-e,z.out.2.1]at h;unfold mO at h;cases h);have aM:w.heap.size≠r.Y:=fun e=>(by obtain⟨Z,hZ⟩:=aq.out;have h:=z.out.1;rw[<-e,z.out.2.2,hZ]at h;unfold mO at h;cases h);have aN:a.cell? ⟨r.P,1,none⟩=some (.pointer (some ⟨r.Y,0,none⟩)):=(cS (a:=⟨r.P,1,none⟩) (Y.block r.P aJ aL)).trans J;have a0:a.cell? ⟨w.heap.size,15,none⟩=some (.string s):=(cS (a:=⟨w.heap.size,15,none⟩) (Y.block w.heap.size aK aM)).trans aI;have HA:=cb ag;have a1:Hid (ln a p.heap.size (.slice ra n rc) cs):=A2;have q:Hid (l.heap.size<=p.heap.size/\p.heap.size<=a.heap.size):=⟨u.out.2.2.2.size,T.size⟩;clear af J aI ag A2 Y2 T Y aL aM)
  |fail)
 have aO:Hid (∀wr w3,Below a.heap.size a wr->tU wr w3 m F->Jf F w w3):=fun wr w3 h1 h2=>GP V.out.1 V.out.2 U.out E.out ap.out HA.out.2.2.2.2.2 (cP q.out.1 q.out.2) h1 h2
 have a2:Hid (∀g,F g->g<l.heap.size):=fun g hg=>cH (V.out.1.1 g hg) U.out.size
 have a3:Hid (lN w r.hb H):=by
  rcases u.out.2.2.1 with h|h|⟨k,h1,h2⟩
  .exact .inl h
  .exact .inr (.inl h)
  .exact .inr (.inr ⟨k,h1,cP U.out.size h2⟩)
 clear HG ae z u ap E ao I aq V U;go_wp2_with fail
 have aP:Hid (∀W,Below a.heap.size a W->Calls prog 110 #[.pointer (some ⟨B,0,none⟩),.slice la n lc] W fun e w'=>e= .returned (.tuple #[])/\∃M' N' K L O P,jz w' m B (fun g=>g<w'.heap.size/\¬F g) rv jv M' N' (nx+n+1) K L O P/\M'.length=M.length+4*n/\N'.length=N.length+4/\tU W w' m F):=fun W S=>xt F B nx m l.heap.size p.heap.size rv jv ah ai aj al M N la lc n cs W (HA.out.1.below S) hn (HA.out.2.2.1.below S) (by have h1:=q.out;have h2:=S.size;omega) ac (by have h1:=q.out;have h2:=S.size;omega) aU (fun c hc=>by have:=(t c hc).1;omega) hM hN aT a2.out
 clear R aN a0;go_loopw [10,11] (fun ok i wr=>∃j:Nat,ok= .bool true/\i= .int .i64 (j:Int)/\j<=n/\Hid (Below a.heap.size a wr)) (fun _ i _=>n-(intOf i).toNat)
 case atStart=>exact⟨0,rfl,rfl,cG _,ct _ _⟩
 case round=>
  obtain⟨j,rfl,rfl,hj,HJ⟩:=hrel;by_cases bd:j<n
  .have aQ:(j:Int)<(n:Int):=by omega
   obtain⟨c,hc⟩:∃c,cs[j]?=some c:=⟨_,cp (by omega)⟩
   have hk:=t c (cu hc);obtain⟨g,ka,kn,kc,rfl,be,a9,aa,d⟩:=Gx (HA.out.2.2.1.below HJ.out).Sa hc;obtain⟨g',av,A,aw,rfl,ba,a4,ax,f⟩:=(a1.out.below HJ.out).at_ hc;have a5:A=kn:=(wW ax).1.symm.trans (rT aa).1;subst a5;have a6:c.keys.length=A:=(rT aa).1;have a7:Hid (∀W,Below wr.heap.size wr W->Calls prog 109 #[.agg #[.int .i64 c.kind,.slice ka A kc,.string c.val,.string c.word,.bool c.fatal,.int .i64 c.id],.agg #[.int .i64 c.kind,.slice av A aw,.string c.val,.string c.word,.bool c.fatal,.int .i64 c.id]] W fun e w'=>e= .returned (.bool true)/\Below W.heap.size W w'):=fun W S=>
    CS c.kind ka av A kc aw c.val c.word c.fatal c.id c.keys l.heap.size p.heap.size W (aa.other (PC _) (fun b c Z hZ _ _=>S.block b (cA hZ))) (ax.other (PC _) (fun b Z hZ _=>S.block b (cA hZ))) (by have:=hk.1;omega) (fun s hs=>by have:=hk.2 s hs;omega)
   have p0:wr.cell? ⟨g,j*6,none⟩=some (.int .i64 c.kind):=d 0 (by omega);have p1:wr.cell? ⟨g,j*6+1,none⟩=some (.slice ka A kc):=d 1 (by omega);have p2:wr.cell? ⟨g,j*6+2,none⟩=some (.string c.val):=d 2 (by omega);have p3:wr.cell? ⟨g,j*6+3,none⟩=some (.string c.word):=d 3 (by omega);have p4:wr.cell? ⟨g,j*6+4,none⟩=some (.bool c.fatal):=d 4 (by omega);have p5:wr.cell? ⟨g,j*6+5,none⟩=some (.int .i64 c.id):=d 5 (by omega);have q0:wr.cell? ⟨g',j*6,none⟩=some (.int .i64 c.kind):=f 0 (by omega);have q1:wr.cell? ⟨g',j*6+1,none⟩=some (.slice av A aw):=f 1 (by omega);have q2:wr.cell? ⟨g',j*6+2,none⟩=some (.string c.val):=f 2 (by omega);have q3:wr.cell? ⟨g',j*6+3,none⟩=some (.string c.word):=f 3 (by omega)
   have q4:wr.cell? ⟨g',j*6+4,none⟩=some (.bool c.fatal):=f 4 (by omega);have q5:wr.cell? ⟨g',j*6+5,none⟩=some (.int .i64 c.id):=f 5 (by omega);clear d f aa ax hk a6 hc t;go_wp2;go_region_law (first
    |(go_simp;go_at_call 109;refine(a7.out _ ?hx).mono ?_;(case hx=>repeat(first|with_reducible exact ct _ _|with_reducible refine dV ?_));rintro e w6 ⟨rfl,aR⟩;have a8:=cb (mH aR);clear aR))
   all_goals go_wp2
   all_goals
    go_roundw
    case rel=>exact⟨j+1,rfl,by go_num,by omega,HJ.out.trans (a8.out.mono HJ.out.size)⟩
    case measure=>simp[intOf];omega
  .have aQ:¬(j:Int)<(n:Int):=by omega
   go_wp2_with fail
   go_at_call 110;refine(aP.out _ HJ.out).mono ?_;rintro e w3 ⟨rfl,M',N',K,L,O,P,h1,h2,h3,h4⟩;have HZ:=cb (cd h1 (cd h2 (cd h3 h4)));clear h1 h2 h3 h4;go_wp2;go_ret;rw[aZ.out];refine⟨rfl,M',N',K,L,O,P,H,HZ.out.1,NL (HA.out.2.1.below HJ.out) HZ.out.2.2.2,HZ.out.2.1,HZ.out.2.2.1,?_,aW.out.trans (HA.out.2.2.2.2.1.trans ((jk.dP HJ.out).trans (Hg HZ.out.2.2.2))),aO.out _ _ HJ.out HZ.out.2.2.2,a3.out⟩;have h1:=q.out;exact aV.out.trans (HA.out.2.2.2.1.trans ((HJ.out.mono (by omega)).trans HZ.out.2.2.2.below))
end Al
namespace Al
variable {w w':World}{i B T a k b:Nat}{A:Li}{m:Value}{l:List oy}
def Fd (l:List oy)(g:Nat):Prop:=∃d∈l,g∈d.cM
structure qY (w:World)(lo B:Nat)(rv jv csv cmv ssv smv:Value)(M:List xA)(N:List zo)(nx:Nat)(rs:List vN)(ds:List oy)(T:Nat):Prop where
 own:jz w lo B (fun g=>g<w.heap.size/\¬Fd ds g) rv jv M N nx csv cmv ssv smv
 zG:nF w lo rv rs
 FP:∀r∈rs,Nc (Fd ds) r
 iw:rG w lo B ⟨rv,csv,cmv,ssv,smv,.int .i64 (nx:Int)⟩ jv ds T
theorem vf (h:rG w i B A m l T):Jg (Fd l) w:=⟨fun b ⟨d,a,c⟩=>(h.all d a).1.old c,fun b Z T f ⟨d,a,c⟩ g=>by
 have e:=(h.all d a).1.types c g
 unfold Qr Qs at e
 simp at e
 omega⟩
theorem RL {e:Li}(h:rG w i B A m l T)(f:w.heap.size<=w'.heap.size)(k:Jf (Fd l) w w')(j:w'.heap[B]?=some (LW e m))(n:T<=a):rG w' i B e m l a:=
 ⟨j,h.ge,h.row.other (fun g Z _ o _=>k.2 _ _ _ _ o (by simp)),fun d c=>⟨(h.all d c).1.keep f (fun b p=>k.1 b ⟨d,c,p⟩) (k.2.sub (by simp)),(h.all d c).2.more n⟩,h.ap⟩
theorem qY.below {e:Nat}{f a b c d:Value}{M:List xA}{N:List zo}{rs:List vN}(h:qY w i B f m a b c d M N e rs l T)(hb:Below w.heap.size w w'):qY w' i B f m a b c d M N e rs l T:=
 ⟨(h.own.below hb).more (fun g j=>⟨cH j.1 hb.size,j.2⟩),h.zG.below hb,h.FP,h.iw.below hb⟩
def Aw (w:World)(i B k T:Nat):Prop:=
 ∃(g m a b c d:Value) (M:List xA) (N:List zo) (f:Nat) (e:List vN) (l:List oy),qY w i B g m a b c d M N f e l (4000*T)/\e.length<=k/\(∀r∈e,r.s.held.length<=T)/\M.length<=4194400*k/\N.length<=4*k/\f<=1048601*k/\l.length<=k
theorem Aw.below (h:Aw w i B k T)(hb:Below w.heap.size w w'):Aw w' i B k T:=by
 obtain⟨e,m,a,b,c,d,M,N,f,g,l,j,n⟩:=h;exact⟨e,m,a,b,c,d,M,N,f,g,l,j.below hb,n⟩
theorem Aw.more (h:Aw w i B k T)(t:k<=b)(j:T<=a):Aw w i B b a:=by
 obtain⟨n,m,d,e,f,g,M,N,o,p,l,c,u,q,v,x,y,z⟩:=h;exact⟨n,m,d,e,f,g,M,N,o,p,l,⟨c.own,c.zG,c.FP,c.iw.more (by omega)⟩,by omega,fun r s=>cP (q r s) j,by omega,by omega,by omega,by omega⟩
def DT (w w':World)(i B k T:Nat):Prop:=Aw w' i B k T/\Below i w w'/\jk w w'
theorem DT.dP (h:Aw w i B k T)(hb:Below w.heap.size w w')(c:i<=w.heap.size)(d:k<=b)(e:T<=a):DT w w' i B b a:=⟨(h.below hb).more d e,hb.mono c,jk.dP hb⟩
section
variable (B i k T:Nat)
theorem Cv (d:Int)(w:World)(h:Aw w i B k T)(n:i<=w.heap.size)(U:k<=1048600):Calls prog 67 #[.pointer (some ⟨B,0,none⟩),.int .i64 d] w fun e w'=>e= .returned (.bool true)/\DT w w' i B (k+1) T:=by
 by_cases K:d=1\/d=2\/d=3
 .obtain⟨E,m,p,q,s,t,M,N,F,H,l,c,V,L,W,X,Y,h8⟩:=h;refine(Cw B F i d _ E m p q s t M N H w K c.zG c.own n (by omega)).mono ?_;rintro e w' ⟨rfl,z,O,_,P,I,Q,u,R,⟨g1,g2,g3⟩,A⟩;have a:=vf c.iw;have C:=c.own.wd;have ne:∀(b:Nat) (Z:Array Value) (v:Nat) (f:Nat×Nat),w.heap[b]?=some (.cells Z v f)->v≠87->v≠151->b≠B/\some b≠E.ownBlock:=fun b Z v f y n1 S=>⟨fun e=>by simp_all,jA c.zG.row y S⟩
  have D:Jf (Fd l) w w':=⟨fun b j=>by
   have x:=a.1 b j;obtain⟨o,ho⟩:∃o,w.heap[b]?=some o:=⟨_,dZ x⟩
   refine A b x (fun e=>?_) (fun e=>?_)
   .exact(a.2 b _ _ _ j (by rw[e];exact C)).1 rfl
   .obtain⟨Z,y,_⟩:=c.zG.row.eC e.symm;exact(a.2 b _ _ _ j y).2.2.2.2.2.1 rfl,fun b v Z f y hT=>by grind⟩
  refine⟨rfl,⟨z,m,p,q,s,t,M,N,F,H++[O],l,⟨I.more (fun g J=>⟨cH J.1 u.size,J.2⟩),Q,fun r hr=>?_,RL c.iw u.size D I.wd (PC _)⟩,by simp;omega,fun r hr=>?_,by omega,by omega,by omega,by omega⟩,u,R⟩
  .rcases cr.1 hr with hr|hr
   .exact c.FP r hr
   .rw[gl]at hr;subst hr;exact⟨fun hF=>by have:=a.1 _ hF;omega,fun hF=>by have:=a.1 _ hF;omega,fun b e=>by grind⟩
  .rcases cr.1 hr with hr|hr
   .exact L r hr
   .rw[gl]at hr;subst hr;rw[P];exact cG _
 .refine(Ek _ d w (by omega)).mono ?_;rintro e w' ⟨rfl,u⟩;exact⟨rfl,DT.dP h u n (by omega) (PC _)⟩
theorem Fm (d D:Int)(E:Value)(p F:ByteArray)(H:Bool)(t I:Int)(J K:Value)(L:ByteArray)(O P g2:Int)(s:ByteArray)(x y:Int)(w:World)(h:Aw w i B k T)(A:i<=w.heap.size)(hk:k<=1048600)(hT:T+s.size<=1048600):Calls prog 40 #[.pointer (some ⟨B,0,none⟩),Value.agg #[.int .i64 5,.int .i64 d,.int .i64 D,E,.string p,.string F,.bool H,.int .i64 t,.int .i64 I,J,K,.string L,.int .i64 O,.int .i64 P,.int .i64 g2,.string s,.int .i64 x,.int .i64 y]] w fun e w'=>e= .returned (.bool true)/\DT w w' i B (k+1) (T+s.size):=by
 have hL:=h;obtain⟨rv,m,Z,aa,ab,ac,M,N,nx,v,l,u,h3,h4,h5,h6,h7,h8⟩:=h;have cB:=cn u.own.wd 0;by_cases Q:0<v.length
 .obtain⟨j,hj⟩:∃j,nN d v.length=j:=⟨_,rfl⟩
  have ad:j<v.length:=by rw[<-hj];exact td d Q
  obtain⟨r,X⟩:∃r,v[j]?=some r:=⟨_,cp ad⟩
  have ai:=h4 r (cu X);obtain⟨g,c,rfl,ae,af⟩:=tu (j:=j) (u:= .pointer (some ⟨r.P,0,none⟩)) u.zG.row (by grind);have aj:=yc r.d r.s s;have f:∀o,Below w.heap.size w (w.alloc o).drew:=fun o=>((ct _ _).alloc (PC _) o).drew
  refine(AZ 5 (by omega) (by omega) d D E p F H t I J K L O P g2 s x y w B g v.length c (.pointer (some ⟨r.P,0,none⟩)) cB Q ae (by omega) (by grind)
   (fun w'=>DT w w' i B (k+1) (T+s.size)/\w'.cell? ⟨B,0,none⟩=some (.slice (some ⟨g,0,none⟩) v.length c)/\w'.cell? ⟨g,nN d v.length,none⟩=some (.pointer (some ⟨r.P,0,none⟩))/\w'.heap[w.heap.size]?=some (.cells #[.int .i64 5,.int .i64 d,.int .i64 D,E,.string p,.string F,.bool H,.int .i64 t,.int .i64 I,J,K,.string L,.int .i64 O,.int .i64 P,.int .i64 g2,.string s,.int .i64 x,.int .i64 y] 95 (0,0)))
   ((Ir (Fd l) B nx i j _ _ m Z aa ab ac M N v r d D E p F H t I J K L O P g2 s x y _ (u.below (f _)).own (u.zG.below (f _)) X (cP A (f _).size) rfl (by omega) (by omega) (by omega) (by omega) (vf (u.below (f _)).iw) (u.FP r (cu X))).mono ?_)
   (fun w' z=>z.2)).mono (fun e w' z=>⟨z.1,z.2.1⟩)
  rintro e w' ⟨rfl,M',N',R,S,U,V,W,hO,hR,hm,hn,Y,hK,ag,ah⟩;obtain⟨g',c',hv,_,al⟩:=tu (j:=j) (u:= .pointer (some ⟨r.P,0,none⟩)) hR.row (by grind);rw[dj]at hv;cases hv;refine⟨rfl,⟨⟨_,m,R,S,U,V,M',N',_,_,l,⟨hO,hR,fun r' n=>?_,RL (u.below (f _)).iw Y.size ag hO.wd (by omega)⟩,by grind,fun r' n=>?_,by omega,by omega,by omega,by omega⟩,((f _).mono A).trans Y,(jk.dP (f _)).trans hK⟩,cn hO.wd 0,by grind,hK _ _ (du w _)⟩
  .rcases da n with n|rfl
   .exact u.FP r' n
   .obtain⟨f1,f2,f3⟩:=u.FP r (cu X);refine⟨f1,f2,fun b C hF=>?_⟩;rcases ah with e|e|⟨q,e,hq⟩
    .exact f3 b (e.symm.trans C) hF
    .rw[show W=some b from C]at e;cases e
    .rw[show W=some b from C]at e;cases e;have:=(vf u.iw).1 b hF;have:=(f (.cells #[.int .i64 5,.int .i64 d,.int .i64 D,E,.string p,.string F,.bool H,.int .i64 t,.int .i64 I,J,K,.string L,.int .i64 O,.int .i64 P,.int .i64 g2,.string s,.int .i64 x,.int .i64 y] 95)).size;omega
  .rcases da n with n|rfl
   .have:=h4 r' n;omega
   .show(PU r.d r.s s.data.toList).2.held.length<=_;omega
 .have h0:v.length=0:=by omega
  obtain⟨a,c,rfl⟩:=u.zG.row.form;rw[h0]at cB;refine(AY 5 (by omega) (by omega) d D E p F H t I J K L O P g2 s x y w B c a cB).mono ?_;rintro e w' ⟨rfl,Y⟩;exact⟨rfl,DT.dP hL Y A (by omega) (by omega)⟩
theorem Fp (b v:Int)(z:Value)(f A:ByteArray)(C:Bool)(n D:Int)(E F:Value)(H:ByteArray)(I J g2:Int)(s:ByteArray)(x y:Int)(w:World)(h:Aw w i B k T)(Q:i<=w.heap.size)(hk:k<=1048600):Calls prog 40 #[.pointer (some ⟨B,0,none⟩),Value.agg #[.int .i64 6,.int .i64 b,.int .i64 v,z,.string f,.string A,.bool C,.int .i64 n,.int .i64 D,E,F,.string H,.int .i64 I,.int .i64 J,.int .i64 g2,.string s,.int .i64 x,.int .i64 y]] w fun e w'=>e= .returned (.bool true)/\DT w w' i B (k+1) (T+s.size):=by
 have X:=h;obtain⟨rv,m,Y,Z,aa,ab,M,N,nx,t,l,P,h3,h4,h5,h6,h7,h8⟩:=h;have K:=cn P.own.wd 0;have L:∀w',Below w.heap.size w w'->DT w w' i B (k+1) (T+s.size):=fun w' u=>DT.dP X u Q (by omega) (by omega)
 by_cases O:0<t.length
 .obtain⟨j,W⟩:∃j,nN b t.length=j:=⟨_,rfl⟩
  have R:j<t.length:=by rw[<-W];exact td b O
  obtain⟨r,hr⟩:∃r,t[j]?=some r:=⟨_,cp R⟩
  obtain⟨g,c,rfl,S,p⟩:=tu (j:=j) (u:= .pointer (some ⟨r.P,0,none⟩)) P.zG.row (by grind);have q:∀o,Below w.heap.size w (w.alloc o).drew:=fun o=>((ct _ _).alloc (PC _) o).drew
  have U:=ey w ⟨B,0,none⟩ K;have V:=ey w ⟨g,_,none⟩ p;refine(AZ 6 (by omega) (by omega) b v z f A C n D E F H I J g2 s x y w B g t.length c (.pointer (some ⟨r.P,0,none⟩)) K O S (by omega) (by grind)
   (fun w'=>Below w.heap.size w w'/\w'.heap[w.heap.size]?=some (.cells #[.int .i64 6,.int .i64 b,.int .i64 v,z,.string f,.string A,.bool C,.int .i64 n,.int .i64 D,E,F,.string H,.int .i64 I,.int .i64 J,.int .i64 g2,.string s,.int .i64 x,.int .i64 y] 95 (0,0)))
   ((AM _ i r b v z f A C n D E F H I J g2 s x y _ ((P.zG.below (q _)).all r (cu hr))).mono ?_)
   (fun w' d=>⟨(d.1.cell (p:=⟨B,0,none⟩) U).trans K,by rw[W];exact(d.1.cell (p:=⟨g,j,none⟩) V).trans p,d.2⟩)).mono (fun e w' d=>⟨d.1,L w' d.2.1⟩)
  rintro e w' ⟨rfl,u⟩;exact⟨rfl,(q _).trans (u.mono (q _).size),jk.dP u _ _ (du w _)⟩
 .have h0:t.length=0:=by omega
  obtain⟨a,c,rfl⟩:=P.zG.row.form;rw[h0]at K;refine(AY 6 (by omega) (by omega) b v z f A C n D E F H I J g2 s x y w B c a K).mono ?_;rintro e w' ⟨rfl,u⟩;exact⟨rfl,L w' u⟩
end
theorem IW (g:Int)(D:4<=g)(E:g<=6)(B i k T:Nat)(a j:Int)(l:Value)(b m:ByteArray)(n:Bool)(c p:Int)(q r:Value)(t:ByteArray)(u v g2:Int)(s:ByteArray)(x y:Int)(w:World)(h:Aw w i B k T)(d:i<=w.heap.size)(z:k<=1048600)(C:T+s.size<=1048600):Calls prog 40 #[.pointer (some ⟨B,0,none⟩),Value.agg #[.int .i64 g,.int .i64 a,.int .i64 j,l,.string b,.string m,.bool n,.int .i64 c,.int .i64 p,q,r,.string t,.int .i64 u,.int .i64 v,.int .i64 g2,.string s,.int .i64 x,.int .i64 y]] w fun e w'=>e= .returned (.bool true)/\DT w w' i B (k+1) (T+s.size):=by
 rcases(show g=4\/g=5\/g=6 by omega)with rfl|rfl|rfl
 .have f:∀o,Below w.heap.size w (w.alloc o):=fun o=>(ct _ _).alloc (PC _) o
  refine KW _ a j l b m n c p q r t u v g2 s x y w _ ((Cv B i k T x _ (h.below (f _)) (cP d (f _).size) z).mono ?_);rintro e w' ⟨rfl,A⟩;exact⟨rfl,A.1.more (PC _) (by omega),((f _).mono d).trans A.2.1,(jk.dP (f _)).trans A.2.2⟩
 .exact Fm B i k T a j l b m n c p q r t u v g2 s x y w h d z C
 .exact Fp B i k T a j l b m n c p q r t u v g2 s x y w h d z
end Al
namespace Al
theorem Ho (B lo nx:Nat)(S:Nat->Prop)(rv jv O P Q R:Value)(M:List xA)(N:List zo)(w:World)(g:jz w lo B S rv jv M N nx O P Q R)(hM:M.length<=1000000000000000)(hN:N.length<=1000000000000000):Calls prog 42 #[.pointer (some ⟨B,0,none⟩)] w fun e w'=>e= .returned (.bool true)/\Below w.heap.size w w':=by
 have T:Hid (∀wr,Below w.heap.size w wr->wr.cell? ⟨B,2,none⟩=some O/\wr.cell? ⟨B,3,none⟩=some P/\wr.cell? ⟨B,4,none⟩=some Q/\wr.cell? ⟨B,5,none⟩=some R):=fun wr hb=>⟨(hb.cell (p:=⟨B,2,none⟩) (cA g.wd)).trans (cn g.wd 2),(hb.cell (p:=⟨B,3,none⟩) (cA g.wd)).trans (cn g.wd 3),(hb.cell (p:=⟨B,4,none⟩) (cA g.wd)).trans (cn g.wd 4),(hb.cell (p:=⟨B,5,none⟩) (cA g.wd)).trans (cn g.wd 5)⟩
 have ah:=cA g.wd;have HO:=cb g;obtain⟨ca,cc,rfl⟩:=g.cs.form;obtain⟨ma,mc,rfl⟩:=g.cm.form;obtain⟨sa,sc,rfl⟩:=g.ss.form;obtain⟨ta,tc,rfl⟩:=g.sm.form;clear g;generalize U:M.length=V at*;generalize W:N.length=X at*;have t:=cb U;have v:=cb W;clear U W;obtain⟨C,D,x,y⟩:=T.out w (ct _ _);go_wp2;go_loopw [3,4] (fun i k wr=>∃j:Nat,i= .int .i64 (j:Int)/\j<=V/\Hid (Below w.heap.size w wr)) (fun i _ _=>V-(intOf i).toNat)
 case atStart=>exact⟨0,rfl,cG _,ct _ _⟩
 case round=>
  obtain⟨j,rfl,hj,HJ⟩:=hrel;clear C D x y;obtain⟨C,D,x,y⟩:=T.out wr HJ.out;by_cases ai:j<V
  .obtain⟨e,z⟩:∃e,M[j]?=some e:=⟨_,cp (by have:=t.out;omega)⟩
   obtain⟨Y,ac,a,F,f,b⟩:=qN (j:=j) (u:=e.v) HO.out.ss (by rw[cL,z];rfl);rw[t.out]at a;cases a;obtain⟨tg,ad,a,H,n,o⟩:=qN (j:=j) (u:= .string e.m) HO.out.sm (by rw[cL,z];rfl);rw[t.out]at a;cases a;have I:=cb (HO.out.tk e (cu z)).1;obtain⟨va,vc,a⟩:=I.out.form;have ae:=e.le;rw[t.out]at F H;have J:Hid (Row w lo 9 1 (.slice va e.n vc) e.n (List.replicate e.n (.string e.m))):=by have:=I.out;rw[a]at this;exact this
   rw[a]at b;clear I z a;generalize e.n=h at*;generalize e.m=em at*;have Z:=(HJ.out.cell (p:=⟨Y,j,none⟩) f).trans b;have aa:(j:Int)<(V:Int):=by omega
   go_wp2;go_loopw [4] (fun k w2=>∃q:Nat,k= .int .i64 (q:Int)/\q<=h/\Hid (Below w.heap.size w w2)) (fun k _=>h-(intOf k).toNat)
   case atStart=>exact⟨0,rfl,cG _,HJ⟩
   case round=>
    obtain⟨q,rfl,hq,l⟩:=hrel;clear C D x y Z;obtain⟨C,D,x,y⟩:=T.out wr l.out;have Z:=(l.out.cell (p:=⟨Y,j,none⟩) f).trans b;have t0:=(l.out.cell (p:=⟨tg,j,none⟩) n).trans o;by_cases K:q<h
    .obtain⟨E,A,a,af,p,r⟩:=qN (j:=q) (u:= .string em) J.out (by rw[List.getElem?_replicate,cN K]);cases a;have v0:=(l.out.cell (p:=⟨E,q,none⟩) p).trans r;have s:(q:Int)<(h:Int):=by omega
     go_wp2;go_quiet (fail)
     go_wp2;go_roundw;case rel=>exact⟨q+1,by go_num,by omega,cV l.out _⟩
     case measure=>simp[intOf];omega
    .have s:¬(q:Int)<(h:Int):=by omega
     go_wp2;go_roundw;case rel=>exact⟨j+1,by go_num,by omega,l⟩
     case measure=>simp[intOf];omega
  .have aa:¬(j:Int)<(V:Int):=by omega
   go_wp2;clear x y;go_loopw [5,6,7] (fun i k c wr=>∃j:Nat,i= .int .i64 (j:Int)/\j<=X/\Hid (Below w.heap.size w wr)) (fun i _ _ _=>X-(intOf i).toNat)
   case atStart=>exact⟨0,rfl,cG _,HJ⟩
   case round=>
    obtain⟨i,rfl,hi,HI⟩:=hrel;clear C D;obtain⟨C,D,x,y⟩:=T.out wr HI.out;clear x y;by_cases aj:i<X
    .obtain⟨e,z⟩:∃e,N[i]?=some e:=⟨_,cp (by have:=v.out;omega)⟩
     obtain⟨Y,ac,a,F,f,b⟩:=qN (j:=i) (u:=e.v) HO.out.cs (by rw[cL,z];rfl);rw[v.out]at a;cases a;obtain⟨tg,ad,a,H,n,o⟩:=qN (j:=i) (u:= .int .i64 e.id) HO.out.cm (by rw[cL,z];rfl);rw[v.out]at a;cases a;have I:=cb (HO.out.nk e (cu z)).1;obtain⟨va,vc,a⟩:=I.out.form;have ae:=e.le;rw[v.out]at F H;have J:Hid (Row w lo 36 6 (.slice va e.n vc) e.n (marks e.n e.id)):=by have:=I.out;rw[a]at this;exact this
     rw[a]at b;clear I z a;generalize e.n=h at*;generalize e.id=ei at*;have Z:=(HI.out.cell (p:=⟨Y,i,none⟩) f).trans b;have ab:(i:Int)<(X:Int):=by omega
     go_wp2;go_loopw [6,7] (fun k c w2=>∃q:Nat,k= .int .i64 (q:Int)/\q<=h/\Hid (Below w.heap.size w w2)) (fun k _ _=>h-(intOf k).toNat)
     case atStart=>exact⟨0,rfl,cG _,HI⟩
     case round=>
      obtain⟨q,rfl,hq,l⟩:=hrel;clear C D Z;obtain⟨C,D,x,y⟩:=T.out wr l.out;clear x y;have Z:=(l.out.cell (p:=⟨Y,i,none⟩) f).trans b;have t0:=(l.out.cell (p:=⟨tg,i,none⟩) n).trans o;by_cases K:q<h
      .have L:∀m,m<6->∀u,[Value.int .i64 0,.slice none 0 0,.string ⟨#[]⟩,.string ⟨#[]⟩,.bool false,.int .i64 ei][m]?=some u->∃E A,(Value.slice va h vc)= .slice (some ⟨E,0,none⟩) h A/\h<=A/\E<w.heap.size/\w.cell? ⟨E,q*6+m,none⟩=some u:=fun m hm u hu=>qN J.out (by rw[Kh h ei q m K hm];exact hu)
       obtain⟨E,A,a,af,p,r⟩:=L 0 (by omega) _ rfl;cases a;have d:∀m,m<6->∀u,[Value.int .i64 0,.slice none 0 0,.string ⟨#[]⟩,.string ⟨#[]⟩,.bool false,.int .i64 ei][m]?=some u->wr.cell? ⟨E,q*6+m,none⟩=some u:=fun m hm u hu=>by
        obtain⟨ak,al,a,_,_,hc⟩:=L m hm u hu;cases a;exact(l.out.cell (p:=⟨E,q*6+m,none⟩) p).trans hc
       have v0:=d 0 (by omega) _ rfl;have v1:=d 1 (by omega) _ rfl;have v2:=d 2 (by omega) _ rfl;have v3:=d 3 (by omega) _ rfl;have v4:=d 4 (by omega) _ rfl;have v5:=d 5 (by omega) _ rfl;rw[im]at v0;have s:(q:Int)<(h:Int):=by omega
       have ag:=l.out.size;have am:B<wr.heap.size:=by omega
       have an:tg<wr.heap.size:=by omega
       clear L d r;go_wp2;go_quiet (fail)
       go_wp2;go_roundw;case rel=>exact⟨q+1,by go_num,by omega,cV (l.out.alloc ag _) _⟩
       case measure=>simp[intOf];omega
      .have s:¬(q:Int)<(h:Int):=by omega
       go_wp2;go_roundw;case rel=>exact⟨i+1,by go_num,by omega,l⟩
       case measure=>simp[intOf];omega
    .have ab:¬(i:Int)<(X:Int):=by omega
     go_wp2;go_ret;exact⟨rfl,HI.out⟩
end Al
theorem eN.opened {w W:World}{X C pt n:Nat}{N D o:Value}{a:List eE}{cs:List dE}{L:List Nat}{M:List dS}(h:eN w X C pt n N D a cs L M){K Y:Nat}{d:Int}(V:a.length<4)(E:w.heap.size<=W.heap.size)(lK:w.heap.size<=K)(lY:w.heap.size<=Y)(k:iT [241,243,247,195,263,266,249,253,9] w W)(O:W.heap[X]?=some (DW C pt n o D))(y:W.ownsRow 0 244 1 o (a.length+1) (a.map (fun v=>dC v.K)++[dC K]))(P:W.heap[Y]?=some (mO d AU))(Q:W.heap[K]?=some (Df d Y (.slice none 0 0) [])):eN W X C pt n o D (a++[⟨K,Y,.slice none 0 0,[]⟩]) (cs++[tZ d]) L M:=by
 have hcut:∀(j:Nat) (u:eE),(a++[(⟨K,Y,.slice none 0 0,[]⟩:eE)])[j]?=some u->(j<a.length/\a[j]?=some u)\/(j=a.length/\u=⟨K,Y,.slice none 0 0,[]⟩):=fun j u p=>by grind
 have f:∀b∈(⟨K,Y,.slice none 0 0,[]⟩:eE).cM,w.heap.size<=b:=fun b g=>by
  have F:b=K\/b=Y:=by simpa [eE.cM,Value.ownBlock,Px]using g
  rcases F with e|e<;>omega
 have z:∀(j:Nat) (u:eE),a[j]?=some u->∀b∈u.cM,b<w.heap.size:=fun j u p b g=>by
  obtain⟨s,hs,l⟩:=h.get p;exact l.old b g
 refine⟨O,?_,k.row (by simp) h.ub,h.len,h.sl,h.s1,h.s4,h.p1,h.yM,h.w6,by simp[h.cl],by grind,fun i v s H hs=>?_,fun i j v u I H p b g q=>?_,fun j S s R hs=>?_,h.NO,fun s hs=>?_,h.nx⟩
 .rw[cI,fu,dF];exact y
 .rcases hcut i v H with⟨A,m⟩|⟨A,rfl⟩
  .rw[cW (by rw[<-h.cl];exact A)]at hs;have l:=h.jV i v s m hs;refine l.keep E (fun b g=>?_);obtain⟨Z,T,t,B⟩:=l.kind b g;exact k b T Z _ t (by rcases B with e|e|e|e|e|e|e<;>(subst e;decide))
  .rw[A,h.cl,dg (PC _)]at hs;simp at hs;rw[<-hs];exact⟨Q,⟨P,KU⟩,.inl ⟨rfl,rfl⟩,rfl,fun i u c p _=>(by simp at p),by simp[Px],fun x U=>(by simp[tZ]at U)⟩
 .rcases hcut i v H with⟨A,m⟩|⟨A,rfl⟩
  .rcases hcut j u p with⟨J,r⟩|⟨J,rfl⟩
   .exact h.cap i j v u I m r b g q
   .have t:=z i v m b g;have B:=f b q;omega
  .rcases hcut j u p with⟨J,r⟩|⟨J,rfl⟩
   .have t:=z j u r b q;have B:=f b g;omega
   .omega
 .have t:=h.ji j S s R hs;have B:=t;exact(k _ _ _ _ B (by simp)).trans t
 .rcases cr.1 hs with hs|hs
  .exact h.wl s hs
  .simp at hs;rw[hs];exact cG _
variable {w:World}{X p pt j:Nat}{q l:Value}{i:List eE}{cs:List dE}{m:List Nat}{n:List dS}
theorem Iu (h:eN w X p pt j q l i cs m n)(d:Int)(f:(d<1\/3<d)\/i.length=4):Calls prog 112 #[.pointer (some ⟨X,0,none⟩),.int .i64 d] w fun e w'=>e= .returned (.tuple #[.int .i64 0,.int .i64 1])/\w'=w:=by
 obtain⟨a,c,rfl⟩:=jr h.rh;have b:=h.eC;have k:=cn b 3;have g:=cA b;by_cases o:d<1
 .go_wp2;go_ret2;exact⟨rfl,rfl⟩
 by_cases r:3<d
 .go_wp2;go_ret2;exact⟨rfl,rfl⟩
 have s:i.length=4:=by
  rcases f with h|h
  .omega
  .exact h
 go_wp2;go_ret2;exact⟨rfl,rfl⟩
def Nf (w w':World)(X p pt j:Nat)(q l:Value)(i:List eE)(cs:List dE)(m:List Nat)(n:List dS)(d:Int):Prop:=∃(a:Value) (v:eE),eN w' X p pt j a l (i++[v]) (cs++[tZ d]) m n/\eH (X::q.ownBlock.toList) w w'/\(a.ownBlock=q.ownBlock\/∃g,a.ownBlock=some g/\w.heap.size<=g)/\w.heap.size<=v.K/\w.heap.size<=v.Y/\v.wv.ownBlock=none
theorem QY (h:eN w X p pt j q l i cs m n)(d:Int)(hd:d=1\/d=2\/d=3)(hn:i.length<4):Calls prog 112 #[.pointer (some ⟨X,0,none⟩),.int .i64 d] w fun e w'=>e= .returned (.tuple #[.int .i64 (i.length:Int),.int .i64 0])/\Nf w w' X p pt j q l i cs m n d:=by
 obtain⟨a,c,rfl⟩:=jr h.rh;have H:=h.eC;unfold DW at H;have c3:=cn H 3;simp at c3;have cf:=dN H 3;have E:=cA H;have J:(Value.slice a i.length c).ownBlock≠some X:=fun e=>by
  obtain⟨F,A⟩:=cZ h.rh e;rw[H]at A;cases A
 have K:=cb J;have h1:¬d<1:=by omega
 have h2:¬3<d:=by omega
 have h3:¬(4:Int)<=(i.length:Int):=by omega
 have C:Hid ((((w.alloc (mO d AU)).alloc (Df d w.heap.size (.slice none 0 0) [])).alloc (.cells #[.pointer (some ⟨w.heap.size+1,0,none⟩)] 244)).ownsRow 0 244 1 (.slice a i.length c) i.length (i.map (fun v=>dC v.K))):=eA (eA (eA h.rh _) _) _;have L:=cb (show∀(k:Nat) (u:Value),[Value.pointer (some ⟨w.heap.size+1,0,none⟩)][k]?=some u->(((w.alloc (mO d AU)).alloc (Df d w.heap.size (.slice none 0 0) [])).alloc (.cells #[.pointer (some ⟨w.heap.size+1,0,none⟩)] 244)).cell? ((⟨w.heap.size+2,0,none⟩:Addr).add k)=some u from World.news_of_block (cs:=#[.pointer (some ⟨w.heap.size+1,0,none⟩)]) (fD (by simp)));obtain⟨i1,hi,R,S,U⟩:=LS
 have P:=cb (cd hi (cd R (cd S U)));have D:Hid (∀(x r:Nat) (y:World),y.ownsRow 0 244 1 (.slice (some ⟨x,0,none⟩) (i.length+1) r) (i.length+1) (i.map (fun v=>dC v.K)++[.pointer (some ⟨w.heap.size+1,0,none⟩)])->(((w.alloc (mO d AU)).alloc (Df d w.heap.size (.slice none 0 0) [])).alloc (.cells #[.pointer (some ⟨w.heap.size+1,0,none⟩)] 244)).grownBy y (Value.slice a i.length c).ownBlock->((Value.slice a i.length c).ownBlock=some x\/x=(((w.alloc (mO d AU)).alloc (Df d w.heap.size (.slice none 0 0) [])).alloc (.cells #[.pointer (some ⟨w.heap.size+1,0,none⟩)] 244)).heap.size)->eN (y.setCell ⟨X,3,none⟩ (.slice (some ⟨x,0,none⟩) (i.length+1) r)) X p pt j (.slice (some ⟨x,0,none⟩) (i.length+1) r) l (i++[⟨w.heap.size+1,w.heap.size,.slice none 0 0,[]⟩]) (cs++[tZ d]) m n/\eH (X::(Value.slice a i.length c).ownBlock.toList) w (y.setCell ⟨X,3,none⟩ (.slice (some ⟨x,0,none⟩) (i.length+1) r))/\((Value.slice (some ⟨x,0,none⟩) (i.length+1) r).ownBlock=(Value.slice a i.length c).ownBlock\/∃g,(Value.slice (some ⟨x,0,none⟩) (i.length+1) r).ownBlock=some g/\w.heap.size<=g)):=fun x r y t s B=>by
  have M:Below w.heap.size w (((w.alloc (mO d AU)).alloc (Df d w.heap.size (.slice none 0 0) [])).alloc (.cells #[.pointer (some ⟨w.heap.size+1,0,none⟩)] 244)):=(((ct _ w).alloc (PC _) _).alloc (by simp) _).alloc (by simp;omega) _;have V:eH (X::(Value.slice a i.length c).ownBlock.toList) w (y.setCell ⟨X,3,none⟩ (.slice (some ⟨x,0,none⟩) (i.length+1) r)):=((eH.dP M).grown s (fun b e=> .inl (by simp[e]))).set (.inl (by simp)) _;have W:∀b,(Value.slice a i.length c).ownBlock=some b->b<w.heap.size:=fun b e=>by
   obtain⟨F,A⟩:=cZ h.rh e;exact cA A
  have N:=(s.block X (by simp;omega) (fun e=>J e.symm)).trans ((M.block X E).trans h.eC);have z:∀(b:Nat) (o:Obj),(((w.alloc (mO d AU)).alloc (Df d w.heap.size (.slice none 0 0) [])).alloc (.cells #[.pointer (some ⟨w.heap.size+1,0,none⟩)] 244)).heap[b]?=some o->w.heap.size<=b->(y.setCell ⟨X,3,none⟩ (.slice (some ⟨x,0,none⟩) (i.length+1) r)).heap[b]?=some o:=fun b o O ab=>(cz y ⟨X,3,none⟩ _ b (by show b≠X;omega)).trans ((s.block b (cA O) (fun e=>by have:=W b e.symm;omega)).trans O)
  refine⟨h.opened (K:=w.heap.size+1) (Y:=w.heap.size) hn V.size (by omega) (PC _) (iT.mQ V (fun b T Z f hm I Q=>?_)) (dh (i:=3) N _) ?_ (z _ _ ((cC _ _ _ (by simp;omega)).trans ((cC _ _ _ (by simp)).trans (du w _))) (PC _)) (z _ _ ((cC _ _ _ (by simp)).trans (fD (by simp))) (by omega)),V,?_⟩
  .rcases cQ.1 hm with e|e
   .rw[e,H]at I;simp at I;rw[<-I.2.1]at Q;simp at Q
   .obtain⟨F,A⟩:=cZ h.rh (lj e);rw[A]at I;simp at I;rw[<-I.2.1]at Q;simp at Q
  .exact dR t (fun gg hg=>by
    cases hg;refine cz y ⟨X,3,none⟩ _ x (fun e=>?_);obtain⟨F,A⟩:=cZ t rfl;rw[show x=X from e,N]at A;cases A)
  .rcases B with e|e
   .exact .inl e.symm
   .exact .inr ⟨x,rfl,by simp at e;omega⟩
 unfold mO Df PJ AU at C L D;go_enter func112,ntmps112;go_wp2_with (first
  |(at_builtin;refine wpList_append_lies _ rfl _ _ _ rfl 0 244 i1 (.pointer none) 1 8 underlying237 P.out.1 P.out.2.1 P.out.2.2.1 P.out.2.2.2 rfl (by omega) (.slice a i.length c) i.length (i.map (fun v=>dC v.K)) rfl C.out ⟨w.heap.size+2,0,none⟩ 1 1 [.pointer (some ⟨w.heap.size+1,0,none⟩)] rfl rfl L.out (by simp[Value.oneCell']) (by omega) (by unfold maxLen;omega) (by omega) (cG _) _ rfl ?_;intro x r y t s B aa;have ac:y.cell? ⟨X,3,none⟩=some (.slice a i.length c):=(s.cell_far ⟨X,3,none⟩ (by simp;omega) (fun e=>K.out e.symm)).trans ((cS ((cC _ _ _ (by simp;omega)).trans ((cC _ _ _ (by simp;omega)).trans (cC w _ _ E)))).trans c3);have ad:y.frozen? ⟨X,3,none⟩=false:=(s.frozen_far ⟨X,3,none⟩ (by simp;omega) (fun e=>K.out e.symm)).trans ((gm ((cC _ _ _ (by simp;omega)).trans ((cC _ _ _ (by simp;omega)).trans (cC w _ _ E)))).trans cf);have Y:=cb (D.out x r y t s B);clear t s B)
  |fail)
 go_ret2;exact⟨by simp,_,_,Y.out.1,Y.out.2.1,Y.out.2.2,nE _,PC _,rfl⟩
open Go.Conc
variable {W:World}{m:Nat}
def ME (v:ud):fe:=⟨v.S,v.m,none,v.bp,v.bv,[]⟩
theorem PN.none (h:so W m []):∃c,W.heap[m]?=some (.map #[] c):=by
 obtain⟨b,a,d,e⟩:=h;have:b.toList=[]:=by simp_all
 have:b=#[]:=by grind
 rw[this]at d;exact⟨a,d⟩
theorem kD.fresh {S:Nat}(h:xk W (yE S m) ⟨0,[]⟩):kD W (ME (yE S m)) ⟨true,0,[],[]⟩:=by
 obtain⟨c,a⟩:=PN.none h.mp;refine⟨⟨⟨.slice none 0 0,0,h.eC,⟨⟨[],dv _ _ _ _,PC _,rfl,by simp⟩,rfl⟩,.inl rfl⟩,fun e=>by cases e⟩,⟨#[],c,a,rfl,?_⟩,.inl rfl,ix.nil _,by grind,fun b d=>(by cases d)⟩;simp
theorem fs.fresh {X k pt d g w:Nat}{c:List ud}(h:Jh W X k pt d g w (.slice none 0 0) [] [] c (List.replicate k ⟨0,[]⟩))(x:d<=6)(y:∀v∈c,∃S m,v=yE S m):fs W X k pt d g w (.slice none 0 0) [] [] (c.map ME) (List.replicate k ⟨true,0,[],[]⟩)/\jK (c.map ME)=rk c:=by
 have l:∀v∈c,(ME v).cM=v.cM:=fun v a=>by
  rfl
 have b:∀(j:Nat) (u:fe),(c.map ME)[j]?=some u->∃v,c[j]?=some v/\u=ME v:=fun j u f=>by grind
 have n:jK (c.map ME)=rk c:=by
  unfold jK rk;rw[PK];congr 1
 obtain⟨z,A,B⟩:=h.gb;refine⟨⟨h.eC,⟨z,A,fun j u f=>?_⟩,by rw[dp];exact h.len,h.s1,h.s4,h.Re,h.yM,x,h.row,rfl,cG _,fun i v s a=>(by simp at a),fun i j v u _ a=>(by simp at a),⟨by rw[dp,lH];exact h.len,fun j u s f p=>?_,fun i j C D q E F=>?_⟩,fun i v a=>(by simp at a),fun o u f=>?_,fun s p=>(by cases p)⟩,n⟩
 .obtain⟨v,a,rfl⟩:=b j u f;exact B j v a
 .obtain⟨v,a,rfl⟩:=b j u f;have J:j<k:=by grind
  have e:=kz (cu p);subst e;obtain⟨S,m,rfl⟩:=y v (cu a);exact kD.fresh (h.ji.ok j _ ⟨0,[]⟩ a (by simp_all))
 .obtain⟨H,r,rfl⟩:=b i C E;obtain⟨I,t,rfl⟩:=b j D F;exact h.ji.ap i j H I q r t
 .obtain⟨v,a,rfl⟩:=b o u f;exact PM.none o []
theorem oS.fresh {m W:World}{X b pt a:Nat}{g:Value}{k:List Nat}(h:oS m W X b pt a b g k)(n:1<=b)(o:b<=4)(d:1<=pt)(p:pt<=16)(q:a<=6):eN W X b pt a (.slice none 0 0) g [] [] k (List.replicate b ⟨true,0,[],[]⟩):=by
 have l:=h.row;rw[<-h.len]at l;refine⟨h.eC,dv _ _ _ _,l,h.len,lH,n,o,d,p,q,rfl,cG _,fun i v s f=>(by simp at f),fun i j v u _ f=>(by simp at f),fun j S s r c=>?_,h.nd,fun s c=>(by cases c),fun s c=>?_⟩
 .have e:=kz (cu c);subst e;exact h.ji j S r
 .have e:=kz c;subst e;show(0:Nat)<65536;omega
theorem LX {w c v:World}{F B T:Nat}{R:Li}{U l:Value}{x:List oy}{A:Obj}(h:rG w F B R U x T)(V:F<=w.heap.size)(hb:Below w.heap.size w c){X t p pt m g H:Nat}{q:Value}{z:List fe}{k:List Nat}(hj:fs c X p pt m g H (.slice none 0 0) [] [] z (List.replicate p ⟨true,0,[],[]⟩))(hr:eN c t p pt m (.slice none 0 0) q [] [] k (List.replicate p ⟨true,0,[],[]⟩))(fP:∀b∈eL X (.slice none 0 0) [] z,w.heap.size<=b)(fQ:∀b∈fZ t (.slice none 0 0) [] k,w.heap.size<=b)(ap:∀b∈eL X (.slice none 0 0) [] z,b∉fZ t (.slice none 0 0) [] k)(W:Row v F 154 1 l (x.length+1) ((x.map fun d=>dC d.D)++[.pointer (some ⟨c.heap.size,0,none⟩)]))(hg:((c.alloc (.cells #[.pointer (some ⟨X,0,none⟩),.pointer (some ⟨t,0,none⟩)] 201)).alloc A).grownBy v U.ownBlock):(∃I,rG (v.setCell ⟨B,1,none⟩ l) F B R l (x++[I]) T/\∀b∈I.cM,w.heap.size<=b)/\Below F w (v.setCell ⟨B,1,none⟩ l)/\jk w (v.setCell ⟨B,1,none⟩ l)/\v.heap[B]?=some (LW R U)/\(∀b,b<w.heap.size->b≠B->U.ownBlock≠some b->(v.setCell ⟨B,1,none⟩ l).heap[b]?=w.heap[b]?):=by
 obtain⟨J,hJ⟩:∃J,J=Obj.cells #[.pointer (some ⟨X,0,none⟩),.pointer (some ⟨t,0,none⟩)] 201:=⟨_,rfl⟩
 rw[<-hJ]at hg;have K:Below c.heap.size c ((c.alloc J).alloc A):=(cU).alloc (by simp) _;have n:=hb.trans (K.mono hb.size);have nD:((c.alloc J).alloc A).heap[c.heap.size]?=some (.cells #[.pointer (some ⟨X,0,none⟩),.pointer (some ⟨t,0,none⟩)] 201 (0,0)):=by
  have Y:((c.alloc J).alloc A).heap[c.heap.size]?=some J:=(cC _ _ _ (by simp)).trans (du c J);rw[Y,hJ]
 have E:=h.below n;have af:=hj.below K;have ag:=hr.below K;have ah:=n.size;generalize (c.alloc J).alloc A=P at*;have aa:nU P F ⟨c.heap.size,X,t,p,pt,m,g,H,.slice none 0 0,[],z,.slice none 0 0,q,[],k,[],List.replicate p ⟨true,0,[],[]⟩⟩:=⟨nD,af,ag,ap,fun b hb=>by
  rcases cr.1 hb with e|e
  .exact cP V (fP b e)
  .exact cP V (fQ b e)⟩
 have ai:Ce T ⟨c.heap.size,X,t,p,pt,m,g,H,.slice none 0 0,[],z,.slice none 0 0,q,[],k,[],List.replicate p ⟨true,0,[],[]⟩⟩:=⟨⟨fun s hs=>(by cases hs),fun s hs=>(by cases hs),fun u hu=>by
  rw[List.mem_replicate]at hu;rw[hu.2];exact⟨by simp_all,cG _⟩⟩,fun u hu=>by simp_all⟩
 have fN:∀b∈(oy.mk c.heap.size X t p pt m g H (.slice none 0 0) [] z (.slice none 0 0) q [] k [] (List.replicate p ⟨true,0,[],[]⟩)).cM,w.heap.size<=b:=fun b hb=>by
  rcases cr.1 hb with e|e
  .exact fP b e
  .exact fQ b e
 have o:∀d∈x++[oy.mk c.heap.size X t p pt m g H (.slice none 0 0) [] z (.slice none 0 0) q [] k [] (List.replicate p ⟨true,0,[],[]⟩)],nU P F d/\Ce T d:=fun d L=>by
  rcases cr.1 L with e|e
  .exact E.all d e
  .simp at e;rw[e];exact⟨aa,ai⟩
 have eD:(oy.mk c.heap.size X t p pt m g H (.slice none 0 0) [] z (.slice none 0 0) q [] k [] (List.replicate p ⟨true,0,[],[]⟩)).D=c.heap.size:=rfl;generalize (oy.mk c.heap.size X t p pt m g H (.slice none 0 0) [] z (.slice none 0 0) q [] k [] (List.replicate p ⟨true,0,[],[]⟩))=I at*;have k5:∀(b:Nat) (Z:Array Value) (Ty:Nat),P.heap[b]?=some (.cells Z Ty (0,0))->Ty≠154->v.heap[b]?=some (.cells Z Ty (0,0)):=fun b Z Ty hb Q=>(hg.block b (cA hb) (jA E.row hb Q)).trans hb
 have ab:=k5 B _ 87 E.wd (by decide);have C:eH (B::U.ownBlock.toList) P (v.setCell ⟨B,1,none⟩ l):=((eH.refl _ P).grown hg (fun b e=> .inl (by simp[e]))).set (.inl (by simp)) _;have kT:∀Ts:List Nat,87∉Ts->154∉Ts->iT Ts P (v.setCell ⟨B,1,none⟩ l):=fun Ts Y S=>iT.mQ C (fun b Ty Z f M y Q=>by
  rcases cQ.1 M with e|e
  .have r:=E.wd;unfold LW at r;rw[e,r]at y;simp at y;rw[<-y.2.1]at Q;exact Y Q
  .obtain⟨Z',D,_⟩:=E.row.eC (ia e);rw[D]at y;simp at y;rw[<-y.2.1]at Q;exact S Q)
 refine⟨⟨I,⟨(dh (i:=1) ab _).trans rfl,h.ge,?_,fun d L=>⟨(o d L).1.keep C.size (fun b hb=>C.block b ((o d L).1.old hb) (fun M=>?_)) (kT _ (by decide) (by decide)),(o d L).2⟩,fun i j d1 d2 aj Y S b N O=>?_⟩,fN⟩,?_,fun b Z y=>?_,ab,fun b hb ak al=>(C.block b (by omega) (fun M=>?_)).trans (n.block b hb)⟩
 .rw[cI,dF];rw[show List.map (fun d=>dC d.D) [I]=[.pointer (some ⟨c.heap.size,0,none⟩)]from by simp[eD,dC]];exact W.other (fun g Z _ y _=>cz _ _ _ _ (fun e=>by grind))
 .rcases cQ.1 M with e|e
  .have r:=E.wd;unfold LW at r;rw[<-e]at r;have:=(o d L).1.types hb r;revert this;decide
  .obtain⟨Z',D,_⟩:=E.row.eC (ia e);have:=(o d L).1.types hb D;revert this;decide
 .have look:∀(a:Nat) (u:oy),(x++[I])[a]?=some u->x[a]?=some u\/(a=x.length/\u=I):=fun a u ha=>by
   by_cases hl:a<x.length
   .rw[cW hl]at ha;exact .inl ha
   .have S:=(cq.1 ha).1;simp at S;rw[dg (by omega)]at ha;have:=cu ha;simp at this;exact .inr ⟨by omega,this⟩
  have ac:∀(j:Nat) (e:oy),x[j]?=some e->∀b∈e.cM,b<w.heap.size:=fun j e he b hb=>(h.all e (cu he)).1.old hb
  rcases look i d1 Y with e1|⟨e1,am⟩
  .rcases look j d2 S with e2|⟨e2,ad⟩
   .exact h.ap i j d1 d2 aj e1 e2 b N O
   .subst ad;have:=ac i d1 e1 b N;have:=fN b O;omega
  .subst am;rcases look j d2 S with e2|⟨e2,ad⟩
   .have:=ac j d2 e2 b O;have:=fN b N;omega
   .omega
 .refine⟨C.os.trans n.os,C.tape.trans n.tape,C.output.trans n.output,cP ah C.size,fun b hb=>(C.block b (by omega) (fun M=>?_)).trans (n.block b (by omega))⟩;rcases cQ.1 M with e|e
  .have:=h.ge;omega
  .obtain⟨Z',D,h6,_⟩:=E.row.eC (ia e);omega
 .have ae:=(n.block b (cA y)).trans y;exact((kT [95] (by decide) (by decide)) _ _ _ _ ae (by simp)).trans ae
 .rcases cQ.1 M with e|e
  .exact ak e
  .exact al (ia e)
theorem Hp (B u T:Nat)(R:Li)(x:Value)(n:List oy)(J pt l:Nat)(w:World)(h:rG w u B R x n T)(aj:u<=w.heap.size)(hn:n.length<=1000000000000)(hc:mJ J pt l=true):Calls prog 70 #[.pointer (some ⟨B,0,none⟩),.agg #[.int .i64 (J:Int),.int .i64 (pt:Int),.int .i64 (l:Int)]] w fun e w'=>e= .returned (.bool true)/\∃a F,rG w' u B R a (n++[F]) T/\Below u w w'/\jk w w'/\(∀b∈F.cM,w.heap.size<=b)/\(∀b,b<w.heap.size->b≠B->x.ownBlock≠some b->w'.heap[b]?=w.heap[b]?):=by
 have K:=hc;simp only[mJ,qM,eF,cO,cX]at K;obtain⟨⟨⟨a1,a2⟩,a3,a4⟩,a5,a6⟩:=K;have H1:=cb (fun W=>Km J pt l W hc (by omega) (by omega) (by omega));have H2:=cb (fun W=>KG J pt l W hc);have HB:Hid (∀o W,Below (w.alloc o).heap.size (w.alloc o) W->Below w.heap.size w W):=fun o W h=>((ct _ _).alloc (PC _) o).trans (h.mono (by simp))
 have HS:=cb (fun(W2 p:World) (a:Value) (A:Obj) (X H g sc:Nat) (I:Value) (vs:List fe) (q:List Nat) c hj hr fP L ap=>LX (c:=W2) (v:=p) (l:=a) (A:=A) (X:=X) (t:=H) (p:=J) (pt:=pt) (m:=l) (g:=g) (H:=sc) (q:=I) (z:=vs) (k:=q) h aj c hj hr fP L ap);have C:Hid (∀W,Below w.heap.size w W->Row W u 154 1 x n.length (n.map fun d=>dC d.D)):=fun W c=>(h.below c).row
 have M:Hid (∀W,Below w.heap.size w W->W.heap[B]?=some (LW R x)):=fun W c=>(h.below c).wd
 obtain⟨N,O,P,Q,S⟩:=LN;have HI:=cb (cd O (cd P (cd Q S)));clear h O P Q S hc;go_enter func70,ntmps70;go_wp2_with fail
 go_at_call 53;refine(H1.out _).mono ?_;rintro e w1 ⟨X,g,sc,U,rfl,V,r,ak,Y,y⟩;obtain⟨Z,aa⟩:=fs.fresh V (by omega) y;have ab:∀b∈eL X (.slice none 0 0) [] (U.map ME),w.heap.size<=b:=fun b c=>cP (by simp) (Y b (by
  unfold eL at c;unfold FQ;rw[aa]at c;exact c))
 clear Y y aa V;generalize U.map ME=vs at*;have p0:w1.cell? ⟨w.heap.size,0,none⟩=some (.int .i64 (J:Int)):=(r.cell (p:=⟨w.heap.size,0,none⟩) (by simp)).trans (cn (du w _) 0);have p1:w1.cell? ⟨w.heap.size,1,none⟩=some (.int .i64 (pt:Int)):=(r.cell (p:=⟨w.heap.size,1,none⟩) (by simp)).trans (cn (du w _) 1);have p2:w1.cell? ⟨w.heap.size,2,none⟩=some (.int .i64 (l:Int)):=(r.cell (p:=⟨w.heap.size,2,none⟩) (by simp)).trans (cn (du w _) 2);have D:=ab;have f:=cb (cd Z (cd (HB.out _ _ r) D));clear Z r ak ab D HB H1;go_wp2_with fail
 go_at_call 111;refine(H2.out _).mono ?_;rintro e E ⟨H,I,q,rfl,m,al⟩;have j:Below w.heap.size w E:=f.out.2.1.trans (m.jx.mono f.out.2.1.size);have ac:=f.out.2.1.size;have av:=j.size;have L:∀b∈fZ H (.slice none 0 0) [] q,w1.heap.size<=b:=fun b c=>by
  rcases eS.1 c with e|e|⟨i,v,hv,_⟩|e
  .rw[e];exact m.ge
  .cases e
  .simp at hv
  .exact m.gs b e
 have ad:=m.fresh (by omega) (by omega) (by omega) (by omega) (by omega);have ae:∀b∈eL X (.slice none 0 0) [] vs,b∉fZ H (.slice none 0 0) [] q:=fun b c hq=>by
  have:=f.out.1.old b c;have:=L b hq;omega
 have af:Hid (∀(p:World) (a:Value) (A:Obj),Row p u 154 1 a (n.length+1) ((n.map fun d=>dC d.D)++[.pointer (some ⟨E.heap.size,0,none⟩)])->((E.alloc (.cells #[.pointer (some ⟨X,0,none⟩),.pointer (some ⟨H,0,none⟩)] 201)).alloc A).grownBy p x.ownBlock->(∃F,rG (p.setCell ⟨B,1,none⟩ a) u B R a (n++[F]) T/\∀b∈F.cM,w.heap.size<=b)/\Below u w (p.setCell ⟨B,1,none⟩ a)/\jk w (p.setCell ⟨B,1,none⟩ a)/\p.heap[B]?=some (LW R x)/\(∀b,b<w.heap.size->b≠B->x.ownBlock≠some b->(p.setCell ⟨B,1,none⟩ a).heap[b]?=w.heap[b]?)):=fun p a A h1 h2=>HS.out E p a A X H g sc I vs q j (f.out.1.below m.jx) ad f.out.2.2 (fun b c=>cP ac (L b c)) ae h1 h2
 have s:=M.out E j;unfold LW at s;have c1:=cn s 1;have cf:=dN s;simp at c1;have aw:=cA s;have ag:Hid (∀A,Row ((E.alloc (.cells #[.pointer (some ⟨X,0,none⟩),.pointer (some ⟨H,0,none⟩)] 201)).alloc A) u 154 1 x n.length (n.map fun d=>dC d.D)):=fun A=>C.out _ ((j.alloc j.size _).alloc (cP j.size (by simp)) _)
 clear m al ad ae L j s HS f H2 C M p0 p1 p2;generalize am:n.length=dn at*;clear am;go_wp2_with (first
  |(go_at_call 99;refine(qp _ _).mono ?_;rintro e w3 ⟨rfl,ah⟩;have an:=ah.symm;clear ah;subst an)
  |(at_builtin;refine fW _ rfl _ _ _ rfl u 154 N (.pointer none) 1 8 underlying83 HI.out.1 HI.out.2.1 HI.out.2.2.1 HI.out.2.2.2 rfl (by omega) x dn (n.map fun d=>dC d.D) rfl (by exact ag.out _) ⟨E.heap.size+1,0,none⟩ 1 1 [.pointer (some ⟨E.heap.size,0,none⟩)] rfl rfl (World.news_of_block (fD (by simp))) (by simp[Value.oneCell']) (by omega) (by unfold maxLen;omega) (by omega) (by simp;omega) ?_;intro ax w9 k hg ao ai;obtain⟨ua,uc,aq⟩:=k.form;subst aq;have t:=af.out w9 _ _ k hg;have ar:=cb t;have z:=t.2.2.2.1;unfold LW at z;clear c1 cf;have c1:=cn z 1;have cf:=dN z;simp at c1;clear k hg ao ai t z)
  |fail)
 go_ret;obtain⟨⟨F,au,y⟩,f2,f3,_,f5⟩:=ar.out;exact⟨rfl,_,F,au,f2,f3,y,f5⟩
variable {o:Nat}{s:dS}
section
variable {w:World}{X i pt b:Nat}{l m:Value}{d:List eE}{cs:List dE}{j:List Nat}{f:List dS}
theorem Ip (h:eN w X i pt b l m d cs j f)(k:Int)(o:k<0\/(i:Int)<=k):Calls prog 117 #[.pointer (some ⟨X,0,none⟩),.int .i64 k] w fun e w'=>e= .returned (.int .i64 1)/\w'=w:=by
 obtain⟨a,c,rfl⟩:=jr h.ub;have g:=h.eC;have n:=cn g 4;rw[h.len]at n;by_cases p:k<0
 .go_wp2;go_ret;exact⟨rfl,rfl⟩
 .go_wp2;go_ret;exact⟨rfl,rfl⟩
theorem Dh (h:eN w X i pt b l m d cs j f)(a:f[o]?=some s)(k:s.up=false):Calls prog 117 #[.pointer (some ⟨X,0,none⟩),.int .i64 (o:Int)] w fun e w'=>e= .returned (.int .i64 2)/\w'=w:=by
 obtain⟨S,g,c,n,rfl,p,u,q⟩:=h.tD a;have v:=(cq.1 n).1;have r:=h.eC;have x:=cn r 4;have y:=cn q 0;have z:=h.s4;have t:=h.len;have A:¬(o:Int)<0:=by omega
 go_wp2;go_ret;exact⟨rfl,rfl⟩
theorem Iq (h:eN w X i pt b l m d cs j f)(q:f[o]?=some s)(r:s.up=true){T:Nat}(t:T+5000<=100000000000)(k:qD b T cs f)(u:qe cs):Calls prog 117 #[.pointer (some ⟨X,0,none⟩),.int .i64 (o:Int)] w fun e w'=>e= .returned (.int .i64 0)/\∃a,tW w w' X i pt b T l m d.length (fZ X l d j) j a (pd i pt b o (cs,f)):=by
 have n:=cb (KF h q t k u);obtain⟨S,g,c,v,p,x,E,y⟩:=h.tD q;have F:=(cq.1 v).1;have z:=h.eC;have A:=cn z 4;rw[p]at A;have H:=cn y 0;have I:=h.s4;have B:=h.len;have J:¬(o:Int)<0:=by omega
 go_enter func117,ntmps117;go_wp2_with fail
 refine n.out.mono ?_;rintro e K ⟨rfl,C⟩;have D:=cb C;go_wp2;go_ret;exact⟨rfl,D.out⟩
theorem Dd (h:eN w X i pt b l m d cs j f)(k:Int)(g:ByteArray)(p:k<0\/(i:Int)<=k):Calls prog 116 #[.pointer (some ⟨X,0,none⟩),.int .i64 k,.string g] w fun e w'=>e= .returned (.int .i64 1)/\w'=w:=by
 obtain⟨a,c,rfl⟩:=jr h.ub;have n:=h.eC;have o:=cn n 4;rw[h.len]at o;by_cases q:k<0
 .go_wp2;go_ret;exact⟨rfl,rfl⟩
 .go_wp2;go_ret;exact⟨rfl,rfl⟩
theorem zF (h:eN w X i pt b l m d cs j f)(k:f[o]?=some s)(a:ByteArray)(n:s.up=false):Calls prog 116 #[.pointer (some ⟨X,0,none⟩),.int .i64 (o:Int),.string a] w fun e w'=>e= .returned (.int .i64 2)/\w'=w:=by
 obtain⟨S,g,c,p,rfl,q,v,r⟩:=h.tD k;have x:=(cq.1 p).1;have t:=h.eC;have y:=cn t 4;have z:=cn r 0;have A:=h.s4;have u:=h.len;have B:¬(o:Int)<0:=by omega
 go_wp2;go_ret;exact⟨rfl,rfl⟩
end
variable {w w' a p:World}{o T:Nat}{d:oy}{m:Obj}{b:List fB}{e:List fe}
def mW (w w':World)(o:Nat)(d:oy)(T:Nat)(m:Obj):Prop:=
 ∃a,nU w' o a/\Ce T a/\a.D=d.D/\eH d.cM w w'/\dB w d.cM a.cM/\w'.heap[w.heap.size]?=some m/\w'.heap[d.D]?=some (.cells #[dC d.X,dC d.Xr] 201 (0,0))
theorem mW.more {a:Nat}(h:mW w w' o d T m)(b:T<=a):mW w w' o d a m:=by
 obtain⟨c,e,f,g⟩:=h;exact⟨c,e,f.more b,g⟩
theorem mW.kept (h:mW w w' o d T m):w'.heap[d.D]?=some (.cells #[dC d.X,dC d.Xr] 201 (0,0))/\w'.heap[w.heap.size]?=some m:=by
 obtain⟨c,_,_,_,_,_,a,b⟩:=h;exact⟨b,a⟩
theorem lO.same {g:Value}(h:lO w a o d m g b d.cs e d.ss)(i:nU w o d)(f:Ce T d)(c:o<=w.heap.size)(hb:Below a.heap.size a p):mW w p o d T m:=by
 obtain⟨j,k,l,n,q⟩:=h.whole i c (h.ref.below hb) (eH.dP hb) (dB.refl _ _);exact⟨_,j,⟨f.bd,f.held⟩,rfl,k,l,n,q⟩
theorem lO.uh {n:Nat}{f:List dE×List dS}{c:List eE}(h:lO w a o d m d.cv b f.1 e f.2)(j:nU w o d)(i:o<=w.heap.size)(g:tW a.drew p d.Xr d.sv d.pt d.win T d.NK d.rrv n d.wP d.rvs c f)(k:gp T f.2):mW w p o d T m:=by
 obtain⟨l,q,r,s,t⟩:=h.whole j i g.iw ((eH.dP (eR a)).trans g.mQ (dB.refl _ _)) g.sF;exact⟨_,l,⟨g.bd,k⟩,rfl,q,r,s,t⟩
section
variable (o T:Nat)(d:oy)(j t:Int)(B:Value)(c A:ByteArray)(n:Bool)(f C:Int)(E D:Value)(r:ByteArray)(q z g2:Int)(s:ByteArray)(x y:Int)(w:World)
theorem RJ (h:nU w o d)(M:Ce T d)(N:o<=w.heap.size):Calls prog 71 #[dC d.D,Value.agg #[.int .i64 9,.int .i64 j,.int .i64 t,B,.string c,.string A,.bool n,.int .i64 f,.int .i64 C,E,D,.string r,.int .i64 q,.int .i64 z,.int .i64 g2,.string s,.int .i64 x,.int .i64 y]] w fun e w'=>e= .returned (.bool true)/\mW w w' o d T (EV 9 j t B c A n f C E D r q z g2 s x y):=by
 generalize O:EV 9 j t B c A n f C E D r q z g2 s x y=m;have I:=qn w m;have hO:=qq w m;have Y:=h.iw.cl;have Z:=h.ref.cl;have ad:=h.iw.c4;by_cases hx:(x<1\/3<x)\/d.cs.length=4
 .refine wT d.D d.X d.Xr j t B c A n f C E D r q z g2 s x y w 0 1 m (fun a=>lO w a o d m d.cv d.cis d.cs d.vs d.ss) (fun p=>mW w p o d T m) O.symm h.eC ?_ ?_ (fun a F=>⟨F.eC,F.ob⟩) (fun p P=>P.kept)
  .refine(Ku (h.iw.below I) x (by omega)).mono ?_;rintro e a ⟨rfl,K⟩;exact⟨rfl,h.half I hO ((h.iw.below I).below K) (eH.dP K) (dB.refl _ _)⟩
  .intro a F;refine(Iu (F.ref.below (eR a)) x (by omega)).mono ?_;rintro e p ⟨rfl,rfl⟩;exact⟨rfl,(F.same h M N (eR a))⟩
 .have Q:x=1\/x=2\/x=3:=by omega
  refine wT d.D d.X d.Xr j t B c A n f C E D r q z g2 s x y w (d.cs.length:Int) 0 m (fun a=>∃J v,lO w a o d m J (d.cis++[v]) (d.cs++[tZ x]) d.vs d.ss) (fun p=>mW w p o d T m) O.symm h.eC ?_ ?_ (fun a F=>?_) (fun p P=>P.kept)
  .refine(Ia (h.iw.below I) x Q (by omega) h.iw.w6).mono ?_;rintro e a ⟨rfl,J,v,F,P,V⟩;exact⟨by rw[Y],J,v,h.half I hO F P V⟩
  .rintro a ⟨J,v,F⟩;refine(QY (F.ref.below (eR a)) x Q (by omega)).mono ?_;rintro e p ⟨rfl,R,W,r1,r2,S,r4,r5,r6⟩;refine⟨by rw[Z],?_⟩;have k:eH d.wP a p:=((eH.dP (eR a)).trans r2 (dB.refl _ _)).more (fun b K=>by
    rcases cQ.1 K with e|e
    .exact eS.2 (.inl e)
    .exact eS.2 (.inr (.inl (ia e))))
   have aa:W.ws=[]:=by
    obtain⟨X,H,ab⟩:=r1.get (i:=d.yN.length) (v:=W) (by simp);have e0:(d.cs++[tZ x])[d.yN.length]?=some (tZ x):=by grind
    rw[e0]at H;cases H;exact dw.1 ab.len
   have ac:∀b∈W.cM,a.heap.size<=b:=fun b e=>by
    unfold eE.cM at e;rw[r6,aa]at e;simp[Px]at e;rcases e with e|e
    .rw[e];exact r4
    .rw[e];exact r5
   have l:dB a d.wP (fZ d.Xr R (d.yN++[W]) d.rvs):=fun b K=>by
    rcases eS.1 K with e|e|⟨i,u,L,e⟩|e
    .exact .inl (eS.2 (.inl e))
    .rcases S with S|⟨g,S,hg⟩
     .exact .inl (eS.2 (.inr (.inl (S.symm.trans e))))
     .rw[S]at e;cases e;exact .inr hg
    .by_cases hi:i<d.yN.length
     .rw[cW hi]at L;exact .inl (eS.2 (.inr (.inr (.inl ⟨i,u,L,e⟩))))
     .rw[dg (by omega)]at L;have U:=cu L;simp at U;subst U;exact .inr (ac b e)
    .exact .inl (eS.2 (.inr (.inr (.inr e))))
   obtain⟨a1,a2,a3,a4,a5⟩:=F.whole h N r1 k l;refine⟨_,a1,⟨⟨fun X H=>?_,fun X H=>?_,fun u L=>?_⟩,M.held⟩,rfl,a2,a3,a4,a5⟩
   .rcases cr.1 H with e|e
    .exact M.bd.told X e
    .simp at e;rw[e];exact cG _
   .rcases cr.1 H with e|e
    .exact M.bd.wl X e
    .simp at e;rw[e];exact cG _
   .have V:=M.bd.ji u L;refine⟨V.1,?_⟩;have e0:iF (d.cs++[tZ x])=iF d.cs:=by unfold iF;simp[tZ,AU]
    rw[e0];exact V.2
  .obtain⟨J,v,F⟩:=F;exact⟨F.eC,F.ob⟩
theorem Ha (h:nU w o d)(I:Ce T d)(K:o<=w.heap.size)(U:T+4000*s.size+5000<=100000000000):Calls prog 71 #[dC d.D,Value.agg #[.int .i64 10,.int .i64 j,.int .i64 t,B,.string c,.string A,.bool n,.int .i64 f,.int .i64 C,E,D,.string r,.int .i64 q,.int .i64 z,.int .i64 g2,.string s,.int .i64 x,.int .i64 y]] w fun e w'=>e= .returned (.bool true)/\mW w w' o d (T+4000*s.size) (EV 10 j t B c A n f C E D r q z g2 s x y):=by
 generalize L:EV 10 j t B c A n f C E D r q z g2 s x y=m;have l:=qn w m;have V:=qq w m;have W:=h.iw.cl;have X:=h.ref.cl;by_cases Y:x<0\/(d.cs.length:Int)<=x
 .refine yo d.D d.X d.Xr j t B c A n f C E D r q z g2 s x y w 1 m (fun a=>lO w a o d m d.cv d.cis d.cs d.vs d.ss) (fun p=>mW w p o d (T+4000*s.size) m) L.symm h.eC ?_ ?_ (fun a g=>⟨g.eC,g.ob⟩) (fun p O=>O.kept)
  .refine(MB (h.iw.below l) x s (by grind)).mono ?_;rintro e a ⟨rfl,rfl⟩;exact⟨rfl,h.half l V (h.iw.below l) (eH.refl _ _) (dB.refl _ _)⟩
  .intro a g;refine(KH (g.ref.below (eR a)) x s (by grind)).mono ?_;rintro e p ⟨rfl,rfl⟩;exact⟨rfl,(g.same h I K (eR a)).more (by omega)⟩
 .obtain⟨i,H,rfl,k⟩:=getNat Y;obtain⟨v,Z⟩:∃v,d.cis[i]?=some v:=⟨_,cp (by omega)⟩
  have P:=wG H.st s.data.toList;rw[gz]at P;have aa:=I.bd.told H (cu k);have M:qD d.win (T+4000*s.size) (d.cs.set i (zi H s.data.toList)) d.ss:=by
   refine⟨fun Q J=>?_,fun Q J=>?_,fun u hu=>?_⟩
   .rcases da J with e|e
    .have:=I.bd.told Q e;omega
    .rw[e];show H.told.length+1000*(H.qs.length+(jL H.st s.data.toList).held.length)<=T+4000*s.size;omega
   .rcases da J with e|e
    .exact I.bd.wl Q e
    .rw[e];exact I.bd.wl H (cu k)
   .have N:=I.bd.ji u hu;refine⟨N.1,?_⟩;have R:=N.2;rw[uB k]at R;rw[sW k];show u.je.length+4000*(iF (d.cs.take i)+((jL H.st s.data.toList).held.length+iF (d.cs.drop (i+1))))<=T+4000*s.size;omega
  refine yo d.D d.X d.Xr j t B c A n f C E D r q z g2 s (i:Int) y w 0 m (fun a=>∃b F,lO w a o d m d.cv b (oF d.sv d.pt d.win i s.data.toList (d.cs,d.ss)).1 F (oF d.sv d.pt d.win i s.data.toList (d.cs,d.ss)).2) (fun p=>mW w p o d (T+4000*s.size) m) L.symm h.eC ?_ ?_ (fun a g=>?_) (fun p O=>O.kept)
  .refine(KK (h.iw.below l) Z k s U M (by omega)).mono ?_;rintro e a ⟨rfl,b,F,g,_,_,N,R⟩;exact⟨rfl,b,F,h.half l V g N R⟩
  .rintro a ⟨b,F,g⟩;refine(Iw (g.ref.below (eR a)) k s U M h.iw.Nn (by omega)).mono ?_;rintro e p ⟨rfl,S,hr⟩;exact⟨rfl,g.uh h K hr ((gp.said (d:=(d.cs,d.ss)) I.held).more (by omega))⟩
  .obtain⟨b,F,g⟩:=g;exact⟨g.eC,g.ob⟩
theorem Hb (h:nU w o d)(I:Ce T d)(k:o<=w.heap.size):Calls prog 71 #[dC d.D,Value.agg #[.int .i64 11,.int .i64 j,.int .i64 t,B,.string c,.string A,.bool n,.int .i64 f,.int .i64 C,E,D,.string r,.int .i64 q,.int .i64 z,.int .i64 g2,.string s,.int .i64 x,.int .i64 y]] w fun e w'=>e= .returned (.bool true)/\mW w w' o d T (EV 11 j t B c A n f C E D r q z g2 s x y):=by
 generalize l:EV 11 j t B c A n f C E D r q z g2 s x y=m;have g:=qn w m;have J:=qq w m;have K:=h.iw.cl;have L:=h.ref.cl;by_cases M:x<0\/(d.cs.length:Int)<=x
 .refine wV d.D d.X d.Xr j t B c A n f C E D r q z g2 s x y w ⟨#[]⟩ 1 m (fun a=>lO w a o d m d.cv d.cis d.cs d.vs d.ss) (fun p=>mW w p o d T m) l.symm h.eC ?_ ?_ (fun a b=>⟨b.eC,b.ob⟩) (fun p u=>u.kept)
  .refine(RP (h.iw.below g) x (by grind)).mono ?_;rintro e a ⟨rfl,rfl⟩;exact⟨rfl,h.half g J (h.iw.below g) (eH.refl _ _) (dB.refl _ _)⟩
  .intro a b;refine(Iy (b.ref.below (eR a)) x (by simp_all)).mono ?_;rintro e p ⟨rfl,rfl⟩;exact⟨rfl,(b.same h I k (eR a))⟩
 .obtain⟨i,N,rfl,F⟩:=getNat M;obtain⟨v,O⟩:∃v,d.cis[i]?=some v:=⟨_,cp (by omega)⟩
  obtain⟨P,H⟩:∃v,d.yN[i]?=some v:=⟨_,cp (by omega)⟩
  refine wV d.D d.X d.Xr j t B c A n f C E D r q z g2 s (i:Int) y w (PJ N.told) 0 m (fun a=>lO w a o d m d.cv d.cis d.cs d.vs d.ss) (fun p=>mW w p o d T m) l.symm h.eC ?_ ?_ (fun a b=>⟨b.eC,b.ob⟩) (fun p u=>u.kept)
  .refine(Ry (h.iw.below g) O F).mono ?_;rintro e a ⟨rfl,b,u⟩;exact⟨rfl,h.half g J b u (dB.refl _ _)⟩
  .intro a b;refine(Ra (b.ref.below (eR a)) H F).mono ?_;rintro e p ⟨rfl,rfl⟩;exact⟨rfl,(b.same h I k (eR a))⟩
theorem Hc (h:nU w o d)(I:Ce T d)(k:o<=w.heap.size):Calls prog 71 #[dC d.D,Value.agg #[.int .i64 12,.int .i64 j,.int .i64 t,B,.string c,.string A,.bool n,.int .i64 f,.int .i64 C,E,D,.string r,.int .i64 q,.int .i64 z,.int .i64 g2,.string s,.int .i64 x,.int .i64 y]] w fun e w'=>e= .returned (.bool true)/\mW w w' o d T (EV 12 j t B c A n f C E D r q z g2 s x y):=by
 generalize l:EV 12 j t B c A n f C E D r q z g2 s x y=m;have g:=qn w m;have J:=qq w m;have K:=h.ref.sl;have L:=h.iw.len;have u:=h.ref.len;by_cases M:x<0\/(d.ss.length:Int)<=x
 .refine wU d.D d.X d.Xr j t B c A n f C E D r q z g2 s x y w ⟨#[]⟩ 1 m (fun a=>lO w a o d m d.cv d.cis d.cs d.vs d.ss) (fun p=>mW w p o d T m) l.symm h.eC ?_ ?_ (fun a b=>⟨b.eC,b.ob⟩) (fun p F=>F.kept)
  .refine(KL (h.iw.below g) x (by grind)).mono ?_;rintro e a ⟨rfl,rfl⟩;exact⟨rfl,h.half g J (h.iw.below g) (eH.refl _ _) (dB.refl _ _)⟩
  .intro a b;refine(Ix (b.ref.below (eR a)) x (by simp_all)).mono ?_;rintro e p ⟨rfl,rfl⟩;exact⟨rfl,(b.same h I k (eR a))⟩
 .obtain⟨i,N,rfl,H⟩:=getNat M;obtain⟨v,O⟩:∃v,d.vs[i]?=some v:=⟨_,cp (by omega)⟩
  obtain⟨P,u⟩:∃v,d.rvs[i]?=some v:=⟨_,cp (by omega)⟩
  refine wU d.D d.X d.Xr j t B c A n f C E D r q z g2 s (i:Int) y w (PJ N.je) 0 m (fun a=>lO w a o d m d.cv d.cis d.cs d.vs d.ss) (fun p=>mW w p o d T m) l.symm h.eC ?_ ?_ (fun a b=>⟨b.eC,b.ob⟩) (fun p F=>F.kept)
  .refine(IG (h.iw.below g) O H).mono ?_;rintro e a ⟨rfl,b,F⟩;exact⟨rfl,h.half g J b F (dB.refl _ _)⟩
  .intro a b;refine(QZ (b.ref.below (eR a)) u H).mono ?_;rintro e p ⟨rfl,rfl⟩;exact⟨rfl,(b.same h I k (eR a))⟩
theorem Hd (h:nU w o d)(I:Ce T d)(F:o<=w.heap.size)(M:T+4000*s.size+5000<=100000000000):Calls prog 71 #[dC d.D,Value.agg #[.int .i64 13,.int .i64 j,.int .i64 t,B,.string c,.string A,.bool n,.int .i64 f,.int .i64 C,E,D,.string r,.int .i64 q,.int .i64 z,.int .i64 g2,.string s,.int .i64 x,.int .i64 y]] w fun e w'=>e= .returned (.bool true)/\mW w w' o d (T+4000*s.size) (EV 13 j t B c A n f C E D r q z g2 s x y):=by
 generalize H:EV 13 j t B c A n f C E D r q z g2 s x y=m;have g:=qn w m;have K:=qq w m;have P:=h.ref.sl;by_cases Q:x<0\/(d.ss.length:Int)<=x
 .refine qV d.D d.X d.Xr j t B c A n f C E D r q z g2 s x y w 1 m (fun a=>lO w a o d m d.cv d.cis d.cs d.vs d.ss) (fun p=>mW w p o d (T+4000*s.size) m) H.symm h.eC ?_ ?_ (fun a b=>⟨b.eC,b.ob⟩) (fun p J=>J.kept)
  .refine(Gk (h.iw.below g) x s (by omega)).mono ?_;rintro e a ⟨rfl,rfl⟩;exact⟨rfl,h.half g K (h.iw.below g) (eH.refl _ _) (dB.refl _ _)⟩
  .intro a b;refine(Dd (b.ref.below (eR a)) x s (by grind)).mono ?_;rintro e p ⟨rfl,rfl⟩;exact⟨rfl,(b.same h I F (eR a)).more (by omega)⟩
 .obtain⟨i,N,rfl,l⟩:=getNat Q;have R:=I.held N (cu l);cases v:N.up with
  |false=>
   refine qV d.D d.X d.Xr j t B c A n f C E D r q z g2 s (i:Int) y w 2 m (fun a=>lO w a o d m d.cv d.cis d.cs d.vs d.ss) (fun p=>mW w p o d (T+4000*s.size) m) H.symm h.eC ?_ ?_ (fun a b=>⟨b.eC,b.ob⟩) (fun p J=>J.kept)
   .refine(Ck (h.iw.below g) l s v).mono ?_;rintro e a ⟨rfl,rfl⟩;exact⟨rfl,h.half g K (h.iw.below g) (eH.refl _ _) (dB.refl _ _)⟩
   .intro a b;refine(zF (b.ref.below (eR a)) l s v).mono ?_;rintro e p ⟨rfl,rfl⟩;exact⟨rfl,(b.same h I F (eR a)).more (by omega)⟩
  |true=>
   refine qV d.D d.X d.Xr j t B c A n f C E D r q z g2 s (i:Int) y w 0 m (fun a=>∃k u,lO w a o d m d.cv k (jO d.sv d.pt d.win i s.data.toList (d.cs,d.ss)).1 u (jO d.sv d.pt d.win i s.data.toList (d.cs,d.ss)).2) (fun p=>mW w p o d (T+4000*s.size) m) H.symm h.eC ?_ ?_ (fun a b=>?_) (fun p J=>J.kept)
   .refine(Gl (h.iw.below g) l s v M (I.bd.more (by omega)) (by omega)).mono ?_;rintro e a ⟨rfl,k,u,b,_,_,S,U⟩;exact⟨rfl,k,u,h.half g K b S U⟩
   .rintro a ⟨k,u,b⟩;refine(De (b.ref.below (eR a)) l s v M (I.bd.more (by omega)) h.iw.Nn (by omega)).mono ?_;rintro e p ⟨rfl,L,V⟩;have O:=gp.Jr (j:=d.sv) (pt:=d.pt) (a:=d.win) (o:=i) (e:=s.data.toList) (d:=(d.cs,d.ss)) I.held;rw[gz]at O;exact⟨rfl,b.uh h F V (O.more (by omega))⟩
   .obtain⟨k,u,b⟩:=b;exact⟨b.eC,b.ob⟩
theorem He (h:nU w o d)(I:Ce T d)(F:o<=w.heap.size)(M:T+5000<=100000000000):Calls prog 71 #[dC d.D,Value.agg #[.int .i64 14,.int .i64 j,.int .i64 t,B,.string c,.string A,.bool n,.int .i64 f,.int .i64 C,E,D,.string r,.int .i64 q,.int .i64 z,.int .i64 g2,.string s,.int .i64 x,.int .i64 y]] w fun e w'=>e= .returned (.bool true)/\mW w w' o d T (EV 14 j t B c A n f C E D r q z g2 s x y):=by
 generalize H:EV 14 j t B c A n f C E D r q z g2 s x y=m;have g:=qn w m;have K:=qq w m;have N:=h.ref.sl;by_cases O:x<0\/(d.ss.length:Int)<=x
 .refine sY d.D d.X d.Xr j t B c A n f C E D r q z g2 s x y w 1 m (fun a=>lO w a o d m d.cv d.cis d.cs d.vs d.ss) (fun p=>mW w p o d T m) H.symm h.eC ?_ ?_ (fun a b=>⟨b.eC,b.ob⟩) (fun p J=>J.kept)
  .refine(Lz (h.iw.below g) x (by omega)).mono ?_;rintro e a ⟨rfl,rfl⟩;exact⟨rfl,h.half g K (h.iw.below g) (eH.refl _ _) (dB.refl _ _)⟩
  .intro a b;refine(Ip (b.ref.below (eR a)) x (by omega)).mono ?_;rintro e p ⟨rfl,rfl⟩;exact⟨rfl,(b.same h I F (eR a))⟩
 .obtain⟨i,P,rfl,u⟩:=getNat O;cases v:P.up with
  |false=>
   refine sY d.D d.X d.Xr j t B c A n f C E D r q z g2 s (i:Int) y w 2 m (fun a=>lO w a o d m d.cv d.cis d.cs d.vs d.ss) (fun p=>mW w p o d T m) H.symm h.eC ?_ ?_ (fun a b=>⟨b.eC,b.ob⟩) (fun p J=>J.kept)
   .refine(GK (h.iw.below g) u v).mono ?_;rintro e a ⟨rfl,rfl⟩;exact⟨rfl,h.half g K (h.iw.below g) (eH.refl _ _) (dB.refl _ _)⟩
   .intro a b;refine(Dh (b.ref.below (eR a)) u v).mono ?_;rintro e p ⟨rfl,rfl⟩;exact⟨rfl,(b.same h I F (eR a))⟩
  |true=>
   refine sY d.D d.X d.Xr j t B c A n f C E D r q z g2 s (i:Int) y w 0 m (fun a=>∃k l,lO w a o d m d.cv k (pd d.sv d.pt d.win i (d.cs,d.ss)).1 l (pd d.sv d.pt d.win i (d.cs,d.ss)).2) (fun p=>mW w p o d T m) H.symm h.eC ?_ ?_ (fun a b=>?_) (fun p J=>J.kept)
   .refine(down_up (h.iw.below g) u v M I.bd).mono ?_;rintro e a ⟨rfl,k,l,b,_,_,Q,R⟩;exact⟨rfl,k,l,h.half g K b Q R⟩
   .rintro a ⟨k,l,b⟩;refine(Iq (b.ref.below (eR a)) u v M I.bd h.iw.Nn).mono ?_;rintro e p ⟨rfl,L,S⟩;exact⟨rfl,b.uh h F S (gp.GO (d:=(d.cs,d.ss)) I.held)⟩
   .obtain⟨k,l,b⟩:=b;exact⟨b.eC,b.ob⟩
theorem Hf (h:nU w o d)(I:Ce T d)(F:o<=w.heap.size):Calls prog 71 #[dC d.D,Value.agg #[.int .i64 15,.int .i64 j,.int .i64 t,B,.string c,.string A,.bool n,.int .i64 f,.int .i64 C,E,D,.string r,.int .i64 q,.int .i64 z,.int .i64 g2,.string s,.int .i64 x,.int .i64 y]] w fun e w'=>e= .returned (.bool true)/\mW w w' o d T (EV 15 j t B c A n f C E D r q z g2 s x y):=by
 generalize H:EV 15 j t B c A n f C E D r q z g2 s x y=m;have g:=qn w m;have K:=qq w m;have N:=h.ref.sl;by_cases O:x<0\/(d.ss.length:Int)<=x
 .refine wh d.D d.X d.Xr j t B c A n f C E D r q z g2 s x y w 1 m (fun a=>lO w a o d m d.cv d.cis d.cs d.vs d.ss) (fun p=>mW w p o d T m) H.symm h.eC ?_ ?_ (fun a b=>⟨b.eC,b.ob⟩) (fun p J=>J.kept)
  .refine(OI (h.iw.below g) x (by omega)).mono ?_;rintro e a ⟨rfl,rfl⟩;exact⟨rfl,h.half g K (h.iw.below g) (eH.refl _ _) (dB.refl _ _)⟩
  .intro a b;refine(Mz (b.ref.below (eR a)) x (by omega)).mono ?_;rintro e p ⟨rfl,rfl⟩;exact⟨rfl,(b.same h I F (eR a))⟩
 .obtain⟨i,M,rfl,l⟩:=getNat O;cases v:M.up with
  |true=>
   refine wh d.D d.X d.Xr j t B c A n f C E D r q z g2 s (i:Int) y w 3 m (fun a=>lO w a o d m d.cv d.cis d.cs d.vs d.ss) (fun p=>mW w p o d T m) H.symm h.eC ?_ ?_ (fun a b=>⟨b.eC,b.ob⟩) (fun p J=>J.kept)
   .refine(OJ (h.iw.below g) l v).mono ?_;rintro e a ⟨rfl,rfl⟩;exact⟨rfl,h.half g K (h.iw.below g) (eH.refl _ _) (dB.refl _ _)⟩
   .intro a b;refine(MA (b.ref.below (eR a)) l v).mono ?_;rintro e p ⟨rfl,rfl⟩;exact⟨rfl,(b.same h I F (eR a))⟩
  |false=>
   refine wh d.D d.X d.Xr j t B c A n f C E D r q z g2 s (i:Int) y w 0 m (fun a=>∃k u,lO w a o d m d.cv k ((d.cs,nA i d.ss):List dE×List dS).1 u ((d.cs,nA i d.ss):List dE×List dS).2) (fun p=>mW w p o d T m) H.symm h.eC ?_ ?_ (fun a b=>?_) (fun p J=>J.kept)
   .refine(up_down (h.iw.below g) l v I.bd).mono ?_;rintro e a ⟨rfl,k,u,b,_,_,P,Q⟩;exact⟨rfl,k,u,h.half g K b P Q⟩
   .rintro a ⟨k,u,b⟩;refine(Iz (b.ref.below (eR a)) l v).mono ?_;rintro e p ⟨rfl,R,S⟩;obtain⟨U,V,W,X,Y⟩:=b.whole h F R ((eH.dP (eR a)).trans S (dB.refl _ _)) (dB.refl _ _);have L:qD d.win T d.cs (nA i d.ss):=by
     have e:nA i d.ss=d.ss.set i {M with up:=true}:=by unfold nA;rw[l]
     rw[e];exact I.bd.se l rfl rfl
    exact⟨rfl,_,U,⟨L,gp.OK I.held⟩,rfl,V,W,X,Y⟩
   .obtain⟨k,u,b⟩:=b;exact⟨b.eC,b.ob⟩
end
theorem wS (g:Int)(m:9<=g)(l:g<=15)(o T:Nat)(d:oy)(j t:Int)(B:Value)(c A:ByteArray)(n:Bool)(f C:Int)(E D:Value)(r:ByteArray)(q z g2:Int)(s:ByteArray)(x y:Int)(w:World)(h:nU w o d)(i:Ce T d)(a:o<=w.heap.size)(k:T+4000*s.size+5000<=100000000000):Calls prog 71 #[dC d.D,Value.agg #[.int .i64 g,.int .i64 j,.int .i64 t,B,.string c,.string A,.bool n,.int .i64 f,.int .i64 C,E,D,.string r,.int .i64 q,.int .i64 z,.int .i64 g2,.string s,.int .i64 x,.int .i64 y]] w fun e w'=>e= .returned (.bool true)/\mW w w' o d (T+4000*s.size) (EV g j t B c A n f C E D r q z g2 s x y):=by
 rcases(show g=9\/g=10\/g=11\/g=12\/g=13\/g=14\/g=15 by omega)with rfl|rfl|rfl|rfl|rfl|rfl|rfl
 .exact(RJ o T d j t B c A n f C E D r q z g2 s x y w h i a).mono (fun e w' b=>⟨b.1,b.2.more (by omega)⟩)
 .exact Ha o T d j t B c A n f C E D r q z g2 s x y w h i a k
 .exact(Hb o T d j t B c A n f C E D r q z g2 s x y w h i a).mono (fun e w' b=>⟨b.1,b.2.more (by omega)⟩)
 .exact(Hc o T d j t B c A n f C E D r q z g2 s x y w h i a).mono (fun e w' b=>⟨b.1,b.2.more (by omega)⟩)
 .exact Hd o T d j t B c A n f C E D r q z g2 s x y w h i a k
 .exact(He o T d j t B c A n f C E D r q z g2 s x y w h i a (by omega)).mono (fun e w' b=>⟨b.1,b.2.more (by omega)⟩)
 .exact(Hf o T d j t B c A n f C E D r q z g2 s x y w h i a).mono (fun e w' b=>⟨b.1,b.2.more (by omega)⟩)
namespace Al
variable {w w':World}{u B z T:Nat}{A C p m t q:Value}{M:List xA}{N:List zo}{rs:List vN}{l:List oy}{v:oy}
theorem qY.RI {I:Nat}(h:qY w u B A C p m t q M N z rs l T)(X:T<=I)(J:u<=w.heap.size){i:Nat}{d:oy}(S:l[i]?=some d)(k:eH d.cM w w')(U:dB w d.cM v.cM)(Y:v.D=d.D)(y:nU w' u v)(hb:Ce I v):qY w' u B A C p m t q M N z rs (l.set i v) I/\Below u w w'/\jk w w':=by
 obtain⟨b1,b2,b3⟩:=h.iw.step X J S k U Y y hb;have K:=vf h.iw;have D:=cu S;have aa:∀g,Fd (l.set i v) g->Fd l g\/w.heap.size<=g:=fun g ⟨e,he,x⟩=>by
  rcases da he with h1|h1
  .exact .inl ⟨e,h1,x⟩
  .rw[h1]at x;rcases U g x with h2|h2
   .exact .inl ⟨d,D,h2⟩
   .exact .inr h2
 have E:∀b,b<w.heap.size->¬Fd l b->w'.heap[b]?=w.heap[b]?:=fun b hb V=>k.block b hb (fun hm=>V ⟨d,D,hm⟩)
 have L:∀(b:Nat) (Z:Array Value) (c:Nat) (f:Nat×Nat),w.heap[b]?=some (.cells Z c f)->(c=87\/c=34\/c=36\/c=28\/c=3\/c=151\/c=193)->w'.heap[b]?=w.heap[b]?:=fun b Z c f j F=>E b (cA j) (fun hF=>by
  have:=K.2 b Z c f hF j;omega)
 have n:∀b,b<w.heap.size->¬Fd l b->¬Fd (l.set i v) b:=fun b hb V hF=>by grind
 have o:∀r∈rs,r.D<w.heap.size/\r.Y<w.heap.size/\∀b,r.hb=some b->b<w.heap.size:=fun r s=>by
  have a:=h.zG.all r s;obtain⟨Z,j⟩:=a.rd.dO;refine⟨cA j,cA a.rf.at_,fun b e=>?_⟩;have H:=a.rd;rw[e]at H;obtain⟨Z',O⟩:=H.MY;exact cA O
 refine⟨⟨(h.own.keep (fun b Z c j F=>L b Z c _ j (by omega)) (fun b Z c j F W=>E b W.1 W.2)).more (fun g x=>⟨cH x.1 k.size,n g x.1 x.2⟩),⟨h.zG.row.other (fun g Z _ j _=>L g Z 151 _ j (by omega)),fun r s=>?_,h.zG.apart⟩,fun r s=>?_,b1⟩,b2,b3⟩
 .have a:=h.zG.all r s;obtain⟨f1,f2,f3⟩:=h.FP r s;obtain⟨P,Q,R⟩:=o r s;exact⟨(L _ _ 193 _ a.pair (by omega)).trans a.pair,a.rd.other (E _ P f1) (fun b hb=>E b (R b hb) (f3 b hb)),⟨(E _ Q f2).trans a.rf.at_,a.rf.ok⟩,a.di,a.Sr,a.Oa,a.Ss⟩
 .obtain⟨f1,f2,f3⟩:=h.FP r s;obtain⟨P,Q,R⟩:=o r s;exact⟨n _ P f1,n _ Q f2,fun b hb=>n b (R b hb) (f3 b hb)⟩
theorem qY.made {f:Value}(h:qY w u B A C p m t q M N z rs l T)(D:rG w' u B ⟨A,p,m,t,q,.int .i64 (z:Int)⟩ f (l++[v]) T)(F:w.heap.size<=w'.heap.size)(H:∀b∈v.cM,w.heap.size<=b)(I:∀b,b<w.heap.size->b≠B->C.ownBlock≠some b->w'.heap[b]?=w.heap[b]?):qY w' u B A f p m t q M N z rs (l++[v]) T:=by
 have J:=h.own.wd;have i:∀(b:Nat) (Z:Array Value) (n:Nat),w.heap[b]?=some (.cells Z n (0,0))->n≠87->n≠154->w'.heap[b]?=w.heap[b]?:=fun b Z n a R K=>I b (cA a) (fun e=>by simp_all) (fun e=>by
  obtain⟨L,c,_⟩:=h.iw.row.eC e;rw[a]at c;cases c;exact K rfl)
 have d:∀b,b<w.heap.size->¬Fd l b->¬Fd (l++[v]) b:=fun b s O ⟨e,j,x⟩=>by
  rcases cr.1 j with h1|h1
  .exact O ⟨e,h1,x⟩
  .simp at h1;rw[h1]at x;have:=H b x;omega
 have P:jz w' u B (fun g=>g<w.heap.size/\¬Fd l g) A f M N z p m t q:=⟨D.wd,h.own.ge,h.own.cs.other (fun g Z _ a _=>i g Z 28 a (by decide) (by decide)),h.own.cm.other (fun g Z _ a _=>i g Z 3 a (by decide) (by decide)),h.own.ss.other (fun g Z _ a _=>i g Z 34 a (by decide) (by decide)),h.own.sm.other (fun g Z _ a _=>i g Z 9 a (by decide) (by decide)),
  fun e j=>⟨(h.own.tk e j).1.other (fun g Z _ a _=>i g Z 9 a (by decide) (by decide)),(h.own.tk e j).2⟩,fun e j=>⟨(h.own.nk e j).1.other (fun g Z _ a _=>i g Z 36 a (by decide) (by decide)),(h.own.nk e j).2⟩,h.own.KP⟩
 refine⟨P.more (fun g y=>⟨cH y.1 F,d g y.1 y.2⟩),h.zG.keep (fun b Z n a Q=>i b Z n a (by omega) (by omega)),fun r E=>?_,D⟩;obtain⟨f1,f2,f3⟩:=h.FP r E;have k:=h.zG.all r E;obtain⟨Z,a⟩:=k.rd.dO;refine⟨d _ (cA a) f1,d _ (cA k.rf.at_) f2,fun b s=>d b ?_ (f3 b s)⟩;have o:=k.rd;rw[s]at o;obtain⟨L,c⟩:=o.MY;exact cA c
theorem Fo (J:Int)(h8:8<=J)(ab:J<=15)(B u k T:Nat)(b L:Int)(O:Value)(f P:ByteArray)(Q:Bool)(i R:Int)(S U:Value)(V:ByteArray)(H I g2:Int)(s:ByteArray)(x y:Int)(w:World)(h:Aw w u B k T)(D:u<=w.heap.size)(hk:k<=1048600)(hT:T+s.size<=1048600):Calls prog 40 #[.pointer (some ⟨B,0,none⟩),Value.agg #[.int .i64 J,.int .i64 b,.int .i64 L,O,.string f,.string P,.bool Q,.int .i64 i,.int .i64 R,S,U,.string V,.int .i64 H,.int .i64 I,.int .i64 g2,.string s,.int .i64 x,.int .i64 y]] w fun e w'=>e= .returned (.bool true)/\DT w w' u B (k+1) (T+s.size):=by
 have hL:=h;obtain⟨A,C,p,m,t,q,M,N,z,rs,l,X,h3,h4,h5,h6,h7,h9⟩:=h;have E:∀o,Below w.heap.size w (w.alloc o):=fun o=>(ct _ _).alloc (PC _) o
 by_cases ac:J=8
 .subst ac;refine IY _ b L O f P Q i R S U V H I g2 s x y w _ ?_;cases hc:mJ H I g2 with
  |false=>
   refine(Me _ H I g2 _ hc).mono ?_;rintro e w' ⟨rfl,Y⟩;exact⟨rfl,DT.dP hL ((E _).trans (Y.mono (E _).size)) D (by omega) (by omega)⟩
  |true=>
   have ad:=hc;simp only[mJ,qM,eF,cO,cX]at ad;obtain⟨n0,rfl⟩:∃n:Nat,H=(n:Int):=⟨H.toNat,by omega⟩
   obtain⟨n1,rfl⟩:∃n:Nat,I=(n:Int):=⟨I.toNat,by omega⟩
   obtain⟨n2,rfl⟩:∃n:Nat,g2=(n:Int):=⟨g2.toNat,by omega⟩
   have Z:=X.below (E (.cells #[.int .i64 8,.int .i64 b,.int .i64 L,O,.string f,.string P,.bool Q,.int .i64 i,.int .i64 R,S,U,.string V,.int .i64 (n0:Int),.int .i64 (n1:Int),.int .i64 (n2:Int),.string s,.int .i64 x,.int .i64 y] 95));refine(Hp B u (4000*T) _ C l n0 n1 n2 _ Z.iw (cP D (E _).size) (by omega) hc).mono ?_;rintro e w' ⟨rfl,ae,v,hJ,Y,hK,hf,fr⟩;have h2:=Z.made hJ Y.size hf fr;exact⟨rfl,⟨A,ae,p,m,t,q,M,N,z,rs,l++[v],⟨h2.own,h2.zG,h2.FP,h2.iw.more (by omega)⟩,by omega,fun r hr=>cP (h4 r hr) (by omega),by omega,by omega,by omega,by simp;omega⟩,((E _).mono D).trans Y,(jk.dP (E _)).trans hK⟩
 .have W:9<=J:=by omega
  have cB:=cn X.own.wd 1;by_cases aa:0<l.length
  .obtain⟨j,hj⟩:∃j,nN b l.length=j:=⟨_,rfl⟩
   have af:j<l.length:=by rw[<-hj];exact td b aa
   obtain⟨d,hd⟩:∃d,l[j]?=some d:=⟨_,cp af⟩
   obtain⟨g,c,rfl,ag,ah⟩:=tu (j:=j) (u:=dC d.D) X.iw.row (by simp_all);obtain⟨ai,hB⟩:=X.iw.all d (cu hd);have F:=fun o=>(E o).drew
   refine(IX J W (by omega) b L O f P Q i R S U V H I g2 s x y w B g l.length c (dC d.D) cB aa ag (by omega) (by simp_all)
    (fun w'=>DT w w' u B (k+1) (T+s.size)/\w'.cell? ⟨B,1,none⟩=some (.slice (some ⟨g,0,none⟩) l.length c)/\w'.cell? ⟨g,nN b l.length,none⟩=some (dC d.D)/\w'.heap[w.heap.size]?=some (.cells #[.int .i64 J,.int .i64 b,.int .i64 L,O,.string f,.string P,.bool Q,.int .i64 i,.int .i64 R,S,U,.string V,.int .i64 H,.int .i64 I,.int .i64 g2,.string s,.int .i64 x,.int .i64 y] 95 (0,0)))
    ((wS J W ab u (4000*T) d b L O f P Q i R S U V H I g2 s x y _ (ai.below (F _)) hB (cP D (F _).size) (by omega)).mono ?_)
    (fun w' K=>K.2)).mono (fun e w' K=>⟨K.1,K.2.1⟩)
   rintro e w' ⟨rfl,v,a1,a2,a3,a4,a5,a6,a7⟩;obtain⟨b1,b2,b3⟩:=(X.below (F _)).RI (I:=4000*(T+s.size)) (by omega) (cP D (F _).size) hd a4 a5 a3 a1 (a2.more (by omega));refine⟨rfl,⟨⟨A,_,p,m,t,q,M,N,z,rs,_,b1,by omega,fun r hr=>cP (h4 r hr) (by omega),by omega,by omega,by omega,by grind⟩,((F _).mono D).trans b2,(jk.dP (F _)).trans b3⟩,cn b1.own.wd 1,?_,b3 _ _ (du w _)⟩;obtain⟨g',c',hv,_,aj⟩:=tu (j:=j) (u:=dC d.D) b1.iw.row (by grind);rw[dj]at hv;cases hv;rw[hj];exact aj
  .have h0:l.length=0:=by omega
   obtain⟨a,c,al⟩:=X.iw.row.form;rw[al,h0]at cB;refine(Qy J W (by omega) b L O f P Q i R S U V H I g2 s x y w B c a cB).mono ?_;rintro e w' ⟨rfl,Y⟩;exact⟨rfl,DT.dP hL Y D (by omega) (by omega)⟩
end Al
namespace Al
theorem JN (B t T F:Nat)(V W k o p s:Value)(M:List xA)(N:List zo)(rs:List vN)(x:List oy)(l h:Int)(hl:l<=6)(hh:12<=h)(w:World)(X:qY w t B V W k o p s M N F rs x T)(Q:t<=w.heap.size)(ap:rs.length<=1000000000000)(hn:x.length<=1000000000000)(hT:T+5000<=100000000000):Calls prog 41 #[.pointer (some ⟨B,0,none⟩),.int .i64 l,.int .i64 h] w fun e w'=>e= .returned (.bool true)/\(∃b,qY w' t B V W k o p s M N F rs b T/\b.length=x.length)/\Below t w w':=by
 have Y:Hid (∀(wr:World) (b:List oy),qY wr t B V W k o p s M N F rs b T->wr.cell? ⟨B,0,none⟩=some V/\wr.cell? ⟨B,1,none⟩=some W/\B<wr.heap.size):=fun wr b h'=>⟨cn h'.own.wd 0,cn h'.own.wd 1,cA h'.own.wd⟩
 have Z:Hid (∀wr r,r∈rs->Below w.heap.size w wr->Calls prog 68 #[.pointer (some ⟨B,0,none⟩),.pointer (some ⟨r.P,0,none⟩),Value.agg #[.int .i64 6,.int .i64 0,.int .i64 0,.slice none 0 0,.string ⟨#[]⟩,.string ⟨#[]⟩,.bool false,.int .i64 0,.int .i64 0,.slice none 0 0,.slice none 0 0,.string ⟨#[]⟩,.int .i64 0,.int .i64 0,.int .i64 0,.string ⟨#[]⟩,.int .i64 0,.int .i64 0]] wr fun e w'=>e= .returned (.bool true)/\Below wr.heap.size wr w'):=fun wr r hr hb=>AM _ t r 0 0 _ _ _ _ 0 0 _ _ _ 0 0 0 _ 0 0 wr ((X.zG.below hb).all r hr)
 have R:Hid (∀(k0:Int),9<=k0->k0<=15->∀(n:Int) (wr:World) (b:List oy) (i:Nat) (d:oy),qY wr t B V W k o p s M N F rs b T->t<=wr.heap.size->b[i]?=some d->b.length=x.length->Calls prog 71 #[dC d.D,Value.agg #[.int .i64 k0,.int .i64 0,.int .i64 0,.slice none 0 0,.string ⟨#[]⟩,.string ⟨#[]⟩,.bool false,.int .i64 0,.int .i64 0,.slice none 0 0,.slice none 0 0,.string ⟨#[]⟩,.int .i64 0,.int .i64 0,.int .i64 0,.string ⟨#[]⟩,.int .i64 n,.int .i64 0]] wr fun e w'=>e= .returned (.bool true)/\∃O,qY w' t B V W k o p s M N F rs O T/\O.length=x.length/\Below t wr w'):=fun k0 h9 aj n wr b i d hW hl A C=>by
  obtain⟨ak,hB⟩:=hW.iw.all d (cu A);refine(wS k0 h9 aj t T d 0 0 _ _ _ _ 0 0 _ _ _ 0 0 0 ⟨#[]⟩ n 0 wr ak hB hl (by show T+4000*0+5000<=_;omega)).mono ?_;rintro e w' ⟨rfl,d',a1,a2,a3,a4,a5,a6,a7⟩;obtain⟨b1,b2,b3⟩:=hW.RI (I:=T) (PC _) hl A a4 a5 a3 a1 a2;exact⟨rfl,_,b1,by rw[dj];exact C,b2⟩
 obtain⟨ra,rc,rfl⟩:=X.zG.row.form;obtain⟨a,c,rfl⟩:=X.iw.row.form;have aa:=cb X.zG.row;have P:Hid (∀(wr:World) (b:List oy) (i:Nat) (d:oy),qY wr t B (.slice ra rs.length rc) (.slice a x.length c) k o p s M N F rs b T->b[i]?=some d->b.length=x.length->∃g c',Value.slice a x.length c= .slice (some ⟨g,0,none⟩) x.length c'/\x.length<=c'/\g<wr.heap.size/\wr.cell? ⟨g,i,none⟩=some (.pointer (some ⟨d.D,0,none⟩))):=fun wr b i d hW A C=>by
  have h1:=hW.iw.row;rw[C]at h1;exact qN h1 (by rw[cL,A];rfl)
 have H0:=cb X;clear X;generalize ab:x.length=n at*;have al:=cb ab;clear ab;generalize ac:rs.length=H at*;have am:=cb ac;clear ac;obtain⟨I,J,u⟩:=Y.out w x H0.out;unfold dC at R;go_wp2;go_loopw [7,8] (fun i ok wr=>∃j:Nat,i= .int .i64 (j:Int)/\j<=H/\Hid (Below w.heap.size w wr)) (fun i _ _=>H-(intOf i).toNat)
 case atStart=>exact⟨0,rfl,cG _,ct _ _⟩
 case round=>
  obtain⟨j,rfl,hj,y⟩:=hrel;clear I J u;obtain⟨I,J,u⟩:=Y.out wr x (H0.out.below y.out);by_cases ad:j<H
  .obtain⟨r,hr⟩:∃r,rs[j]?=some r:=⟨_,cp (by have:=am.out;omega)⟩
   obtain⟨g,c',hv,K,D,f⟩:=qN (j:=j) (u:= .pointer (some ⟨r.P,0,none⟩)) aa.out (by rw[cL,hr];rfl);cases hv;have aq:=(y.out.cell (p:=⟨g,j,none⟩) D).trans f;have S:=cb (Z.out wr r (cu hr) y.out);have z:(j:Int)<(H:Int):=by omega
   clear hr f;go_wp2_with fail
   go_at_call 68;refine S.out.mono ?_;rintro e U ⟨rfl,E⟩;have an:Hid (Below w.heap.size w U):=y.out.trans (E.mono y.out.size);clear E;go_wp2;go_roundw;case rel=>exact⟨j+1,by go_num,by omega,an⟩
   case measure=>simp[intOf];omega
  .have z:¬(j:Int)<(H:Int):=by omega
   have HS:=cb (cd (H0.out.below y.out) (y.out.mono Q));clear aa Z;go_wp2;clear I J u;go_loopw [9,10,11,12] (fun i _ _ _ wr=>∃(j:Nat) (b:List oy),i= .int .i64 (j:Int)/\j<=n/\Hid (qY wr t B (.slice ra H rc) (.slice a n c) k o p s M N F rs b T/\b.length=n/\Below t w wr)) (fun i _ _ _ _=>n-(intOf i).toNat)
   case atStart=>exact⟨0,x,rfl,cG _,HS.out.1,al.out,HS.out.2⟩
   case round=>
    clear y HS ad z hj;obtain⟨j,b,rfl,hj,y⟩:=hrel;obtain⟨I,J,u⟩:=Y.out wr b y.out.1;by_cases ad:j<n
    .have z:(j:Int)<(n:Int):=by omega
     go_wp2;clear I J u;go_loopw [10,11,12] (fun q _ _ w2=>∃(m:Int) (b:List oy),q= .int .i64 m/\ -1<=m/\m<=5/\Hid (qY w2 t B (.slice ra H rc) (.slice a n c) k o p s M N F rs b T/\b.length=n/\Below t w w2)) (fun q _ _ _=>(5-intOf q).toNat)
     case atStart=>exact⟨-1,b,rfl,by omega,by omega,y⟩
     case round=>
      obtain⟨m,dq,rfl,ar,au,L⟩:=hrel;obtain⟨I,J,u⟩:=Y.out wr dq L.out.1;by_cases hm:m<=4
      .obtain⟨d,A⟩:∃d,dq[j]?=some d:=⟨_,cp (by have:=L.out.2.1;omega)⟩
       obtain⟨g,c',hv,K,D,f⟩:=P.out wr dq j d L.out.1 A L.out.2.1;cases hv;have S:=cb (R.out 11 (by omega) (by omega) m wr dq j d L.out.1 (cP Q L.out.2.2.size) A L.out.2.1);clear A;go_wp2_with fail
       go_at_call 71;refine S.out.mono ?_;rintro e U ⟨rfl,d1,ae,af,E⟩;have v:Hid (qY U t B (.slice ra H rc) (.slice (some ⟨g,0,none⟩) n c) k o p s M N F rs d1 T/\d1.length=n/\Below t w U):=⟨ae,af,L.out.2.2.trans E⟩
       clear ae af E S I J u f D K;obtain⟨I,J,u⟩:=Y.out U d1 v.out.1;obtain⟨d,A⟩:∃d,d1[j]?=some d:=⟨_,cp (by have:=v.out.2.1;omega)⟩
       obtain⟨g',av,hv,K,D,f⟩:=P.out U d1 j d v.out.1 A v.out.2.1;cases hv;have S:=cb (R.out 12 (by omega) (by omega) m U d1 j d v.out.1 (cP Q v.out.2.2.size) A v.out.2.1);clear A;go_wp2_with fail
       go_at_call 71;refine S.out.mono ?_;rintro e w2 ⟨rfl,d2,ag,ah,ai⟩;have ao:Hid (qY w2 t B (.slice ra H rc) (.slice (some ⟨g,0,none⟩) n c) k o p s M N F rs d2 T/\d2.length=n/\Below t w w2):=⟨ag,ah,v.out.2.2.trans ai⟩
       clear ag ah ai S I J u f D K;go_wp2;go_roundw;case rel=>exact⟨m+1,d2,by go_num,by omega,by omega,ao⟩
       case measure=>simp[intOf];omega
      .go_wp2;go_roundw;case rel=>exact⟨j+1,dq,by go_num,by omega,L⟩
       case measure=>simp[intOf];omega
    .have z:¬(j:Int)<(n:Int):=by omega
     go_wp2;go_ret;exact⟨rfl,⟨b,y.out.1,y.out.2.1⟩,y.out.2.2⟩
end Al
end Go.Proofs.YtlonjggfnleolaaGreatDoor
namespace Go.Proofs.YtlonjggfnleolaaGreatDoor.Al
open Go.RowKit Go.Shelf Go.Proofs.Tryz
set_option linter.unusedVariables false
set_option maxRecDepth 20000
theorem AX (a:Int)(A:4<=a)(i:a<=15)(D:¬a=7)(B f k T:Nat)(b j:Int)(l:Value)(c m:ByteArray)(n:Bool)(d o:Int)(p q:Value)(r:ByteArray)(t u g2:Int)(s:ByteArray)(x y:Int)(w:World)(h:Aw w f B k T)(g:f<=w.heap.size)(v:k<=1048600)(z:T+s.size<=1048600):Calls prog 40 #[.pointer (some ⟨B,0,none⟩),Value.agg #[.int .i64 a,.int .i64 b,.int .i64 j,l,.string c,.string m,.bool n,.int .i64 d,.int .i64 o,p,q,.string r,.int .i64 t,.int .i64 u,.int .i64 g2,.string s,.int .i64 x,.int .i64 y]] w fun e w'=>e= .returned (.bool true)/\DT w w' f B (k+1) (T+s.size):=by
 by_cases C:a<=6
 .exact IW a A C B f k T b j l c m n d o p q r t u g2 s x y w h g v z
 .exact Fo a (by omega) i B f k T b j l c m n d o p q r t u g2 s x y w h g v z
def gA (j:Nat):Nat:=if j<=4 then 0 else if j<=9 then 8 else 24
theorem FR (j:Nat):gA j<=gA (j+1):=by
 unfold gA;repeat' split
 all_goals omega
theorem Sq (j:Nat):gA j<=24:=by
 unfold gA;repeat' split
 all_goals omega
theorem yl (b j:Nat)(c:1<=j)(d:j<=9):∃(a e f g2:Int) (s:ByteArray) (x:Int),pR b j=[.int .i64 a,.int .i64 0,.int .i64 0,.slice none 0 0,.string ⟨#[]⟩,.string ⟨#[]⟩,.bool false,.int .i64 0,.int .i64 0,.slice none 0 0,.slice none 0 0,.string ⟨#[]⟩,.int .i64 e,.int .i64 f,.int .i64 g2,.string s,.int .i64 x,.int .i64 0]/\4<=a/\a<=15/\¬a=7/\gA j+s.size=gA (j+1):=by
 match j,c,d with
 |1,_,_=>exact⟨4,0,0,0,⟨#[]⟩,1,rfl,by decide,by decide,by decide,rfl⟩
 |2,_,_=>exact⟨4,0,0,0,⟨#[]⟩,2,rfl,by decide,by decide,by decide,rfl⟩
 |3,_,_=>exact⟨4,0,0,0,⟨#[]⟩,3,rfl,by decide,by decide,by decide,rfl⟩
 |4,_,_=>exact⟨5,0,0,0,⟨#[103,101,116,32,97,32,98,10]⟩,0,rfl,by decide,by decide,by decide,rfl⟩
 |5,_,_=>exact⟨8,3,5,2,⟨#[]⟩,0,rfl,by decide,by decide,by decide,rfl⟩
 |6,_,_=>exact⟨9,0,0,0,⟨#[]⟩,1,rfl,by decide,by decide,by decide,rfl⟩
 |7,_,_=>exact⟨9,0,0,0,⟨#[]⟩,2,rfl,by decide,by decide,by decide,rfl⟩
 |8,_,_=>exact⟨9,0,0,0,⟨#[]⟩,3,rfl,by decide,by decide,by decide,rfl⟩
 |9,_,_=>exact⟨10,0,0,0,⟨#[103,101,116,32,97,10,115,101,116,32,98,32,49,10,120,10]⟩,0,rfl,by decide,by decide,by decide,rfl⟩
theorem Jc (b:Nat):(Value.agg (pR b 0).toArray)= .agg #[.int .i64 1,.int .i64 0,.int .i64 2,.slice (some ⟨b,0,none⟩) 1 1,.string ⟨#[120,121]⟩,.string ⟨#[]⟩,.bool false,.int .i64 0,.int .i64 0,.slice none 0 0,.slice none 0 0,.string ⟨#[]⟩,.int .i64 0,.int .i64 0,.int .i64 0,.string ⟨#[]⟩,.int .i64 1,.int .i64 0]:=rfl
theorem Ap (B c:Nat)(w:World)(p:Aw w c B 0 0)(d:c<=w.heap.size):Calls prog 39 #[.pointer (some ⟨B,0,none⟩),.int .i64 1,.int .i64 15] w fun e w'=>e= .returned (.bool true)/\Aw w' c B 10 24/\Below c w w':=by
 have n:Below w.heap.size w ((w.alloc (.cells #[.string ⟨#[97]⟩] 9)).alloc (.cells (sS w.heap.size) 95)):=(cU).alloc (by simp) _;refine(Rk _ 1 15 w (fun j W=>(Aw W c B j (gA j)/\Below c w W)/\(j=0->w.heap.size<W.heap.size/\W.cell? ⟨w.heap.size,0,none⟩=some (.string ⟨#[97]⟩))) ?_ ?_ ?_).mono (fun e w' o=>⟨o.1,o.2.1⟩)
 .refine⟨⟨p.below n,n.mono d⟩,fun _=>?_⟩;have i:((w.alloc (.cells #[.string ⟨#[97]⟩] 9)).alloc (.cells (sS w.heap.size) 95)).heap[w.heap.size]?=some (.cells #[.string ⟨#[97]⟩] 9 (0,0)):=dI (du w _) _;exact⟨cA i,cn i 0⟩
 .intro j q i D W b;have f:=cP d b.1.2.size;by_cases r:j=0
  .subst r;obtain⟨t,u⟩:=b.2 rfl;refine(Dz _ W 1 _ (JY _ W t u) (by omega) (by omega)).mono ?_;rintro e w' ⟨rfl,a⟩;exact⟨rfl,⟨⟨(b.1.1.below a).more (by omega) (FR 0),b.1.2.trans (a.mono f)⟩,fun e=>(by omega)⟩,jk.dP a⟩
  .obtain⟨v,y,z,A,s,x,e,k,g,l,C⟩:=yl w.heap.size j (by omega) (by omega);rw[e];have E:=Sq (j+1);refine(AX v k g l B c j (gA j) 0 0 (.slice none 0 0) ⟨#[]⟩ ⟨#[]⟩ false 0 0 (.slice none 0 0) (.slice none 0 0) ⟨#[]⟩ y z A s x 0 W b.1.1 f (by omega) (by omega)).mono ?_;rintro e w' ⟨rfl,h,a,m⟩;rw[C]at h;exact⟨rfl,⟨⟨h,b.1.2.trans a⟩,fun e=>(by omega)⟩,m⟩
 .intro j q F W b;exact⟨⟨b.1.1.more (by omega) (FR j),b.1.2⟩,fun e=>(by omega)⟩
theorem Aw.start (w:World):Aw (w.alloc (.cells #[.slice none 0 0,.slice none 0 0,.slice none 0 0,.slice none 0 0,.slice none 0 0,.slice none 0 0,.int .i64 0] 87)) w.heap.size w.heap.size 0 0:=
 ⟨.slice none 0 0,.slice none 0 0,.slice none 0 0,.slice none 0 0,.slice none 0 0,.slice none 0 0,[],[],0,[],[],
  ⟨⟨du w _,PC _,Row.nil _ _ _ _,Row.nil _ _ _ _,Row.nil _ _ _ _,Row.nil _ _ _ _,fun e b=>(by cases b),fun e b=>(by cases b),fun g c=>(by cases c)⟩,
  ⟨Row.nil _ _ _ _,fun r a=>(by cases a),fun i j k l _ h=>(by cases h)⟩,fun r a=>(by cases a),
  ⟨du w _,PC _,Row.nil _ _ _ _,fun d f=>(by cases f),fun i j d e _ h=>(by cases h)⟩⟩,PC _,fun r a=>(by cases a),cG _,cG _,cG _,PC _⟩
theorem FO (B a k T:Nat)(W:World)(o:Aw W a B k T)(g:a<=W.heap.size)(y:k<=1048600)(z:T<=1048600):Calls prog 41 #[.pointer (some ⟨B,0,none⟩),.int .i64 1,.int .i64 15] W fun e i=>e= .returned (.bool true)/\Aw i a B k T/\Below a W i:=by
 obtain⟨j,l,b,c,d,f,M,N,m,n,p,q,r,s,t,u,v,A⟩:=o;refine(JN B a (4000*T) m j l b c d f M N n p 1 15 (by omega) (by omega) W q g (by omega) (by omega) (by omega)).mono ?_;rintro e C ⟨rfl,⟨h,w,D⟩,x⟩;exact⟨rfl,⟨j,l,b,c,d,f,M,N,m,n,h,w,r,s,t,u,v,by omega⟩,x⟩
theorem QC (B f k T:Nat)(W:World)(g:Aw W f B k T)(n:k<=1048600):Calls prog 42 #[.pointer (some ⟨B,0,none⟩)] W fun e h=>e= .returned (.bool true)/\Below W.heap.size W h:=by
 obtain⟨i,j,a,b,c,d,M,N,l,o,p,m,q,r,s,t,u,v⟩:=g;exact Ho B f l _ i j a b c d M N W m.own (by omega) (by omega)
theorem Ik (b o N c:Nat)(p:Nat->Int)(i:Nat->List Value)(g:Nat->Nat)(w:World)(l:Bd w b o N p i g)(S:N<=c)(T:N<=1048576)(U:lu g N<=1048576):Calls prog 15 #[.slice (some ⟨b,o,none⟩) N c,.int .i64 1,.int .i64 15,.int .i64 7] w fun e w'=>e= .returned (.bool true)/\Below w.heap.size w w':=by
 have u:Below w.heap.size w (w.alloc (.cells #[.slice none 0 0,.slice none 0 0,.slice none 0 0,.slice none 0 0,.slice none 0 0,.slice none 0 0,.int .i64 0] 87)):=cU;refine Il b o N c 1 15 7 w p i (fun j W=>Aw W w.heap.size w.heap.size (10+j) (24+lu g j)/\Below w.heap.size w W) (fun W=>Aw W w.heap.size w.heap.size (10+N) (24+lu g N)/\Below w.heap.size w W) l.lt S (by omega) (fun j k=>⟨(l.ops j k).1,(l.ops j k).2.1,(l.ops j k).2.2.1⟩) ?_ (fun j W h=>h.2) ?_ ?_ ?_ ?_
 .refine(Ap _ _ _ (Aw.start w) (by simp)).mono ?_;rintro e w' ⟨rfl,V,X⟩;exact⟨rfl,V,u.trans X⟩
 .intro j k v z A W d;have F:lu g (j+1)<=lu g N:=Fs g k;have m:lu g (j+1)=lu g j+g j:=rfl;by_cases B:p j<=3
  .refine(Dz _ W (p j) _ ((l.ops j k).2.2.2.later d.2) v B).mono ?_;rintro e w' ⟨rfl,f⟩;exact⟨rfl,(d.1.below f).more (by omega) (by omega),d.2.trans (f.mono d.2.size)⟩
  .obtain⟨hl,_,_,q,H,a,Y,Z,ss,r,I,J,t,K,fa,va,fn,fc,vn,vc,bs,vs,L,M,O,P,s,x,y,Q,_⟩:=l.ops j k;obtain⟨R,C,aa⟩:=l.sz j k;have D:R=s:=by
    have E:(i j).toArray=#[.int .i64 (p j),.int .i64 q,.int .i64 H,.slice a Y Z,.string r,.string I,.bool J,.int .i64 t,.int .i64 K,.slice fa fn fc,.slice va vn vc,.string L,.int .i64 M,.int .i64 O,.int .i64 P,.string s,.int .i64 x,.int .i64 y]:=by
     exact Value.agg.inj Q
    have:(i j).toArray[15]?=some (.string s):=by rw[E];rfl
    rw[eQ,C]at this;cases this;rfl
   subst D;rw[Q];refine(AX (p j) (by omega) z A w.heap.size w.heap.size (10+j) (24+lu g j) q H _ r I J t K _ _ L M O P R x y W d.1 d.2.size (by omega) (by omega)).mono ?_;rintro e w' ⟨rfl,n,f,ab⟩;exact⟨rfl,n.more (by omega) (by omega),d.2.trans f⟩
 .intro j k _ W d;have m:lu g (j+1)=lu g j+g j:=rfl;exact⟨d.1.more (by omega) (by omega),d.2⟩
 .intro W d;refine(FO _ _ _ _ W d.1 d.2.size (by omega) (by omega)).mono ?_;rintro e w' ⟨rfl,n,f⟩;exact⟨rfl,n,d.2.trans f⟩
 .intro W d;refine(QC _ _ _ _ W d.1 (by omega)).mono ?_;rintro e w' ⟨rfl,f⟩;exact⟨rfl,d.2.trans (f.mono d.2.size)⟩
theorem zC (w:World):Calls prog 15 #[.slice none 0 0,.int .i64 1,.int .i64 15,.int .i64 7] w fun e w'=>e= .returned (.bool true)/\Below w.heap.size w w':=by
 have c:Below w.heap.size w (w.alloc (.cells #[.slice none 0 0,.slice none 0 0,.slice none 0 0,.slice none 0 0,.slice none 0 0,.slice none 0 0,.int .i64 0] 87)):=cU;refine zD 1 15 7 w (fun W=>Aw W w.heap.size w.heap.size 10 24/\Below w.heap.size w W) (fun W=>Aw W w.heap.size w.heap.size 10 24/\Below w.heap.size w W) ?_ ?_ ?_
 .refine(Ap _ _ _ (Aw.start w) (by simp)).mono ?_;rintro e w' ⟨rfl,f,g⟩;exact⟨rfl,f,c.trans g⟩
 .intro W a;refine(FO _ _ _ _ W a.1 a.2.size (by omega) (by omega)).mono ?_;rintro e w' ⟨rfl,d,b⟩;exact⟨rfl,d,a.2.trans b⟩
 .intro W a;refine(QC _ _ _ _ W a.1 (by omega)).mono ?_;rintro e w' ⟨rfl,b⟩;exact⟨rfl,a.2.trans (b.mono a.2.size)⟩
end Go.Proofs.YtlonjggfnleolaaGreatDoor.Al
namespace Go.Proofs.YtlonjggfnleolaaGreatDoor
open Go.RowKit Go.Shelf Go.Proofs.Tryz
theorem all_some (b o N c:Nat)(h:Nat->Int)(a:Nat->List Value)(d:Nat->Nat)(w:World)(i:Bd w b o N h a d)(j:N<=c)(f:N<=1048576)(g:lu d N<=1048576):Calls prog 14 #[.slice (some ⟨b,o,none⟩) N c] w fun e w'=>e= .returned (.bool true)/\Below w.heap.size w w':=by
 have k:=cb (Al.Ik b o N c h a d w i j f g);go_enter func14,ntmps14;go_wp2_with fail
 refine k.out.mono ?_;rintro e n ⟨rfl,l⟩;have m:=cb l;go_wp2;go_ret;exact⟨rfl,m.out⟩
theorem all_nil (w:World):Calls prog 14 #[.slice none 0 0] w fun e w'=>e= .returned (.bool true)/\Below w.heap.size w w':=by
 have a:=cb (Al.zC w);go_enter func14,ntmps14;go_wp2_with fail
 refine a.out.mono ?_;rintro e d ⟨rfl,b⟩;have c:=cb b;go_wp2;go_ret;exact⟨rfl,c.out⟩
end Go.Proofs.YtlonjggfnleolaaGreatDoor
