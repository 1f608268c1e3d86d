import Derived.Test.YtlonjggfnleolaaGreatDoorJuQa
namespace Go.Proofs.YtlonjggfnleolaaGreatDoor
open Go.RowKit Go.Shelf Go.Proofs.Tryz
set_option linter.unusedVariables false
set_option maxHeartbeats 1000000
set_option maxRecDepth 100000
theorem xF {w:World}{q:Nat}{k:Int}{f:Value}{a g:ByteArray}{i:Bool}{id n:Int}{b c:Bool}{d e:Value}(h:w.heap[q]?=some (sx k f a g i id n b c d e)):
 w.cell? ⟨q,0,none⟩=some (.int .i64 k)/\w.cell? ⟨q,6,none⟩=some (.int .i64 n)/\w.cell? ⟨q,7,none⟩=some (.bool b)/\w.cell? ⟨q,8,none⟩=some (.bool c)/\w.cell? ⟨q,9,none⟩=some d/\w.cell? ⟨q,10,none⟩=some e/\∀j,w.frozen? ⟨q,j,none⟩=false:=
 ⟨cn h 0,cn h 6,cn h 7,cn h 8,cn h 9,cn h 10,dN h⟩
theorem AL (q:Nat)(k:Int)(b:Value)(a c:ByteArray)(d:Bool)(id:Int)(n:Nat)(j f:Bool)(g i:Value)(w:World)(h:w.heap[q]?=some (sx k b a c d id ((n+1:Nat):Int) j f g i))(m:n<=1000):Calls prog 136 #[.pointer (some ⟨q,0,none⟩)] w fun e w'=>e= .returned (.tuple #[])/\w'.heap[q]?=some (sx k b a c d id (n:Int) true f g i)/\eH [q] w w':=by
 obtain⟨_,o,p,_,_,_,r⟩:=xF h;have l:Hid (((w.setCell ⟨q,6,none⟩ (.int .i64 (n:Int))).setCell ⟨q,7,none⟩ (.bool true)).heap[q]?=some (sx k b a c d id (n:Int) true f g i)/\eH [q] w ((w.setCell ⟨q,6,none⟩ (.int .i64 (n:Int))).setCell ⟨q,7,none⟩ (.bool true))):=⟨(dh (i:=7) (dh (i:=6) h _) _).trans rfl,((eH.refl _ w).set (.inl (by simp)) _).set (.inl (by simp)) _⟩
 go_wp2;go_end0;exact⟨rfl,l.out⟩
structure oc where
 st:Nat
 id:Nat
 val:ByteArray
 used:Nat
def ov (r:oc):Value:= .agg #[.int .i64 (r.st:Int),.int .u16 (r.id:Int),.string r.val,.int .i64 (r.used:Int)]
def vM:Value:= .agg #[.int .i64 0,.int .u16 0,.string ⟨#[]⟩,.int .i64 0]
theorem Im (q a c i d:Nat)(k:Int)(x:Value)(j y:ByteArray)(z:Bool)(id:Int)(n:Nat)(A B:Bool)(s t:Array Value)(r:oc)(w:World)(h:w.heap[q]?=some (sx k x j y z id ((n+1:Nat):Int) A B (.slice (some ⟨a,0,none⟩) d d) (.slice (some ⟨c,0,none⟩) d d)))(g:w.heap[a]?=some (.cells s 4 (0,0)))(l:w.heap[c]?=some (.cells t 9 (0,0)))(L:s.size=d)(M:t.size=d)(Y:i<d)(N:d<=1000)(Z:n<=1000)(m:r.st=0\/r.st=1\/r.st=2):Calls prog 135 #[.pointer (some ⟨q,0,none⟩),.int .i64 (i:Int),ov r] w fun e w'=>e= .returned (.tuple #[])/\w'.heap[q]?=some (sx k x j y z id (n:Int) A (B || decide (r.st=2)) (.slice (some ⟨a,0,none⟩) d d) (.slice (some ⟨c,0,none⟩) d d))/\w'.heap[a]?=some (.cells (s.set! i (.bool (decide (r.st=0)))) 4 (0,0))/\w'.heap[c]?=some (.cells (t.set! i (.string r.val)) 9 (0,0))/\eH [q,a,c] w w':=by
 obtain⟨_,c6,_,c8,c9,P,cf⟩:=xF h;have Q:=cA h;have R:=cA g;have S:=cA l;have E:¬q=a:=fun e=>by rw[e,g]at h;unfold sx at h;simp at h
 have F:¬q=c:=fun e=>by rw[e,l]at h;unfold sx at h;simp at h
 have H:¬a=c:=fun e=>by rw[e,l]at g;simp at g
 have I:¬a=q:=fun e=>E e.symm
 have J:¬c=q:=fun e=>F e.symm
 have T:¬c=a:=fun e=>H e.symm
 obtain⟨C,u⟩:∃C,s[i]?=some C:=⟨_,dZ (by omega)⟩
 obtain⟨D,v⟩:∃D,t[i]?=some D:=⟨_,dZ (by omega)⟩
 have cy:w.cell? ⟨a,i,none⟩=some C:=(cn g i).trans u;have cv:w.cell? ⟨c,i,none⟩=some D:=(cn l i).trans v;have fy:=dN g i;have fv:=dN l i;have U:IntKind.i64.wrap (((n+1:Nat):Int)-1)=(n:Int):=by rw[eM _ (by omega) (by omega)];omega
 have f:Hid (∀(O:Obj) (o p:Bool),((((((w.setCell ⟨q,6,none⟩ (.int .i64 (n:Int))).setCell ⟨q,8,none⟩ (.bool o)).setCell ⟨a,i,none⟩ (.bool p)).setCell ⟨c,i,none⟩ (.string r.val)).alloc O)).heap[q]?=some (sx k x j y z id (n:Int) A o (.slice (some ⟨a,0,none⟩) d d) (.slice (some ⟨c,0,none⟩) d d))/\((((((w.setCell ⟨q,6,none⟩ (.int .i64 (n:Int))).setCell ⟨q,8,none⟩ (.bool o)).setCell ⟨a,i,none⟩ (.bool p)).setCell ⟨c,i,none⟩ (.string r.val)).alloc O)).heap[a]?=some (.cells (s.set! i (.bool p)) 4 (0,0))/\((((((w.setCell ⟨q,6,none⟩ (.int .i64 (n:Int))).setCell ⟨q,8,none⟩ (.bool o)).setCell ⟨a,i,none⟩ (.bool p)).setCell ⟨c,i,none⟩ (.string r.val)).alloc O)).heap[c]?=some (.cells (t.set! i (.string r.val)) 9 (0,0))/\eH [q,a,c] w ((((((w.setCell ⟨q,6,none⟩ (.int .i64 (n:Int))).setCell ⟨q,8,none⟩ (.bool o)).setCell ⟨a,i,none⟩ (.bool p)).setCell ⟨c,i,none⟩ (.string r.val)).alloc O))):=fun O o p=>by
  refine⟨dI (fV (fV ((dh (i:=8) (dh (i:=6) h _) _).trans rfl) E) F) O,dI (fV (dh (i:=i) (fV (fV g I) I) _) H) O,dI (dh (i:=i) (fV (fV (fV l J) J) T) _) O,?_⟩;exact(((((eH.refl [q,a,c] w).set (.inl (by simp)) _).set (.inl (by simp)) _).set (.inl (by simp)) _).set (.inl (by simp)) _).trans (eH.dP (M:=[]) ((ct _ _).alloc (PC _) O)) (fun b V=>by cases V)
 obtain⟨st,W,rv,K⟩:=r;simp only at m f⊢;unfold ov;clear h g l u v;have X:(i:Int)<(d:Int):=by omega
 cases B with
 |false=>
  rcases m with rfl|rfl|rfl;all_goals
   go_wp2
   go_region
   go_wp2
   go_region
   go_wp2
   go_end0
   refine⟨rfl,(f.out _ _ _).1,(f.out _ _ _).2.1,(f.out _ _ _).2.2.1,?_⟩
   first|exact(f.out _ _ _).2.2.2.drew.drew|exact(f.out _ _ _).2.2.2.drew|exact(f.out _ _ _).2.2.2
 |true=>
  rcases m with rfl|rfl|rfl;all_goals
   go_wp2
   go_region
   go_wp2
   go_region
   go_wp2
   go_end0
   refine⟨rfl,(f.out _ _ _).1,(f.out _ _ _).2.1,(f.out _ _ _).2.2.1,?_⟩
   first|exact(f.out _ _ _).2.2.2.drew.drew|exact(f.out _ _ _).2.2.2.drew|exact(f.out _ _ _).2.2.2
def vp (k:Int)(r:oc):Bool:=(decide (k=1)&&decide (r.st=0)) || r.val.toList.isEmpty
theorem AG (C q i:Nat)(k:Int)(d:Value)(a f:ByteArray)(g:Bool)(id n:Int)(j l:Bool)(m o:Value)(r:oc)(w:World)(h:w.heap[q]?=some (sx k d a f g id n j l m o)):Calls prog 134 #[.agg #[.pointer (some ⟨C,0,none⟩),.pointer (some ⟨q,0,none⟩),.int .i64 (i:Int)],ov r] w fun e w'=>e= .returned (.bool (vp k r))/\Below w.heap.size w w':=by
 obtain⟨u,_,_,_,_,_,_⟩:=xF h;have p:=cA h;have b:=PE w;obtain⟨v,s,x,c⟩:=r;unfold ov vp;have t:q<w.heap.size+1:=by omega
 .go_wp2;all_goals go_ret
  all_goals exact⟨by simp[*],b.out _ _⟩
end Go.Proofs.YtlonjggfnleolaaGreatDoor
