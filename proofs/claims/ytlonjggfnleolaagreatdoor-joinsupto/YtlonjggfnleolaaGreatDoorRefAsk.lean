import Derived.Test.YtlonjggfnleolaaGreatDoorRefAsk0
namespace Go.Proofs.YtlonjggfnleolaaGreatDoor
open Go.RowKit
set_option linter.unusedVariables false
set_option maxHeartbeats 2000000
set_option maxRecDepth 20000
variable {w w2:World}{s:ByteArray}
set_option linter.unusedSimpArgs false
set_option maxHeartbeats 2000000
set_option maxRecDepth 20000
theorem box_cell {v:Array Value}{t:Nat}(h:Below (w.alloc (.cells v t)).heap.size (w.alloc (.cells v t)) w2)(i:Nat):w2.cell? ⟨w.heap.size,i,none⟩=v[i]?:=
 (h.cell (p:=⟨w.heap.size,i,none⟩) (by simp)).trans (blkCell (blkNew w _) i)
theorem old_cell {x:Obj}(h:Below (w.alloc x).heap.size (w.alloc x) w2){b:Nat}(o:Nat)(hb:b<w.heap.size):w2.cell? ⟨b,o,none⟩=w.cell? ⟨b,o,none⟩:=
 (h.cell (p:=⟨b,o,none⟩) (by simp;omega)).trans (((Below.refl w.heap.size w).alloc (Nat.le_refl _) x).cell (p:=⟨b,o,none⟩) hb)
theorem ret_said {t:ByteArray}(h:s=t):Ending.returned (.tuple #[.string s,.int .i64 0])= .returned (.tuple #[.string t,.int .i64 0]):=by rw[h]
theorem ba_ext {a b:ByteArray}(h:a.data.toList=b.data.toList):a=b:=by
 cases a;cases b;simp at h;simp[h]
theorem textB_size (h:s.size≤40):(textB s).size≤45:=by
 have:=sizedB_size h;have e:(ByteArray.mk #[36]).size=1:=rfl;unfold textB;rw[ByteArray.size_append];omega
theorem refask2_1 (b o c:Nat)(key:ByteArray)(val wd:ByteArray)(ft:Bool)(cid id:Int)(w:World)(hs:StrsIn w (some ⟨b,o,none⟩) 1 c [key])(hv:val.size≤maxLen)(hcb:cmdB 1 [key] val=true)(hcan:frSayB 1 1 id=true)(hb:b<w.heap.size)(hcap:1≤c)(hc:w.cell? ⟨b,o,none⟩=some (.string key)):Calls Tryz.prog 101 #[.int .i64 2,cmdV6 1 (.slice (some ⟨b,o,none⟩) 1 c) val wd ft cid,.int .i64 id] w fun e w'=>e= .returned (.tuple #[.string (askS 2 1 [key] val id),.int .i64 0])∧Below w.heap.size w w':=by
 have R:=right_of hcb;have hBa:∀x,Below w.heap.size w (w.alloc x):=fun x=>(Below.refl _ _).alloc (Nat.le_refl _) _
 have HBa:=hide' hBa;clear hBa;have HC:Hid (∀x,Calls Tryz.prog 139 #[cmdV6 1 (.slice (some ⟨b,o,none⟩) 1 c) val wd ft cid] (w.alloc x) fun e w'=>e= .returned (.bool true)∧Below (w.alloc x).heap.size (w.alloc x) w'):=fun x=>by have:=refcmd_any 1 (.slice (some ⟨b,o,none⟩) 1 c) [key] val wd ft cid _ (hs.later (HBa.out x)).strs hv;rwa [hcb]at this
 have HS:Hid (∀W,Calls Tryz.prog 140 #[.int .i64 2,cmdV6 1 (.slice (some ⟨b,o,none⟩) 1 c) val wd ft cid,.int .i64 id] W fun e w'=>e= .returned (.bool true)∧Below W.heap.size W w'):=fun W=>by have:=sayable_2 1 (some ⟨b,o,none⟩) 1 c val wd ft cid id W;rwa [hcan]at this
 have hv40:=R.val40;have hid:0≤id∧id≤65535:=by
  unfold frSayB at hcan;simp at hcan;omega
 have hks:=R.keys key (by simp);have HF:Hid (∀W:World,Calls Tryz.prog 141 #[.int .i64 1,.int .i64 1,.int .i64 key.size,.int .i64 val.size,.int .i64 id] W fun e w'=>e= .returned (.string (headB 1 1 key.size val.size id))∧Below W.heap.size W w'):=fun W=>head_any 1 1 key.size val.size id W (by omega) (by omega) (by omega) (by omega) (by omega)
 have hsz:(headB 1 1 key.size val.size id).size=7:=by unfold headB;rw[strOfNums_size];rfl
 have g1:¬9223372036854775807<7+key.size:=by omega
 have g2:¬9223372036854775807<7+key.size+val.size:=by omega
 have HE:Hid (headB 1 1 key.size val.size id++key++val=askS 2 1 [key] val id):=by show _=_;rfl
 clear R hs hv hcb hcan;have hz:b≠w.heap.size:=by omega
 unfold cmdV6 at*;go_enter Tryz.func101,Tryz.ntmps101;go_wp2_with fail
 go_at_call 139;refine(HC.out _).mono ?_;rintro e w1 ⟨rfl,hb1⟩;obtain⟨hc1,hf1⟩:=bcell hb1;have hz1:w.heap.size<w1.heap.size:=by have:=hb1.size;simp at this;omega
 have H1:=hide' hb1;clear hb1;go_wp2_with fail
 go_at_call 140;refine(HS.out _).mono ?_;rintro e w2 ⟨rfl,hb2⟩;have HW:=H1.out.trans (hb2.mono H1.out.size);have k3:=(old_cell HW o hb).trans hc;have k0:=box_cell HW 0;have k1:=box_cell HW 1;have k2:=box_cell HW 2;rw[show((#[.int .i64 1,.slice (some ⟨b,o,none⟩) 1 c,.string val,.string wd,.bool ft,.int .i64 cid]:Array Value)[0]?)=some (.int .i64 1)from rfl]at k0;rw[show((#[.int .i64 1,.slice (some ⟨b,o,none⟩) 1 c,.string val,.string wd,.bool ft,.int .i64 cid]:Array Value)[1]?)=some (.slice (some ⟨b,o,none⟩) 1 c)from rfl]at k1;rw[show((#[.int .i64 1,.slice (some ⟨b,o,none⟩) 1 c,.string val,.string wd,.bool ft,.int .i64 cid]:Array Value)[2]?)=some (.string val)from rfl]at k2;have hz2:w.heap.size<w2.heap.size:=by have:=hb2.size;omega
 have H2:=hide' ((HBa.out _).trans (HW.mono (by simp)));clear hb2 HW hc1 hf1 H1 HC HS HBa hc;have hb2:b<w2.heap.size:=by omega
 go_wp2;go_region_held3 (fun w'=>w'.cell? ⟨w.heap.size,0,none⟩=some (.int .i64 1)∧w'.cell? ⟨w.heap.size,1,none⟩=some (.slice (some ⟨b,o,none⟩) 1 c)∧w'.cell? ⟨w.heap.size,2,none⟩=some (.string val)∧w'.cell? ⟨b,o,none⟩=some (.string key)) (go_keep)
  (first|(go_at_call 141;refine(HF.out _).mono ?_;rintro e w5 ⟨rfl,hB5⟩;have hS5:=(hB5.cell (p:=⟨w.heap.size,0,none⟩) (by simp;omega));have hS6:=(hB5.cell (p:=⟨w.heap.size,1,none⟩) (by simp;omega));have hS7:=(hB5.cell (p:=⟨w.heap.size,2,none⟩) (by simp;omega));have hS8:=(hB5.cell (p:=⟨b,o,none⟩) (by simp;omega));have HB5:=hide3 hB5;clear hB5))
 all_goals
  go_wp2
  go_ret2
  exact⟨ret_said HE.out,(below_drewN (H2.out.alloc (by omega) _) _).trans (HB5.out.mono (by simp;omega))⟩
theorem refask2_2 (b o c:Nat)(key:ByteArray)(val wd:ByteArray)(ft:Bool)(cid id:Int)(w:World)(hs:StrsIn w (some ⟨b,o,none⟩) 1 c [key])(hv:val.size≤maxLen)(hcb:cmdB 2 [key] val=true)(hcan:frSayB 2 1 id=true)(hb:b<w.heap.size)(hcap:1≤c)(hc:w.cell? ⟨b,o,none⟩=some (.string key)):Calls Tryz.prog 101 #[.int .i64 2,cmdV6 2 (.slice (some ⟨b,o,none⟩) 1 c) val wd ft cid,.int .i64 id] w fun e w'=>e= .returned (.tuple #[.string (askS 2 2 [key] val id),.int .i64 0])∧Below w.heap.size w w':=by
 have R:=right_of hcb;have hBa:∀x,Below w.heap.size w (w.alloc x):=fun x=>(Below.refl _ _).alloc (Nat.le_refl _) _
 have HBa:=hide' hBa;clear hBa;have HC:Hid (∀x,Calls Tryz.prog 139 #[cmdV6 2 (.slice (some ⟨b,o,none⟩) 1 c) val wd ft cid] (w.alloc x) fun e w'=>e= .returned (.bool true)∧Below (w.alloc x).heap.size (w.alloc x) w'):=fun x=>by have:=refcmd_any 2 (.slice (some ⟨b,o,none⟩) 1 c) [key] val wd ft cid _ (hs.later (HBa.out x)).strs hv;rwa [hcb]at this
 have HS:Hid (∀W,Calls Tryz.prog 140 #[.int .i64 2,cmdV6 2 (.slice (some ⟨b,o,none⟩) 1 c) val wd ft cid,.int .i64 id] W fun e w'=>e= .returned (.bool true)∧Below W.heap.size W w'):=fun W=>by have:=sayable_2 2 (some ⟨b,o,none⟩) 1 c val wd ft cid id W;rwa [hcan]at this
 have hv40:=R.val40;have hid:0≤id∧id≤65535:=by
  unfold frSayB at hcan;simp at hcan;omega
 have hks:=R.keys key (by simp);have HF:Hid (∀W:World,Calls Tryz.prog 141 #[.int .i64 1,.int .i64 2,.int .i64 key.size,.int .i64 val.size,.int .i64 id] W fun e w'=>e= .returned (.string (headB 1 2 key.size val.size id))∧Below W.heap.size W w'):=fun W=>head_any 1 2 key.size val.size id W (by omega) (by omega) (by omega) (by omega) (by omega)
 have hsz:(headB 1 2 key.size val.size id).size=7:=by unfold headB;rw[strOfNums_size];rfl
 have g1:¬9223372036854775807<7+key.size:=by omega
 have g2:¬9223372036854775807<7+key.size+val.size:=by omega
 have HE:Hid (headB 1 2 key.size val.size id++key++val=askS 2 2 [key] val id):=by show _=_;rfl
 clear R hs hv hcb hcan;have hz:b≠w.heap.size:=by omega
 unfold cmdV6 at*;go_enter Tryz.func101,Tryz.ntmps101;go_wp2_with fail
 go_at_call 139;refine(HC.out _).mono ?_;rintro e w1 ⟨rfl,hb1⟩;obtain⟨hc1,hf1⟩:=bcell hb1;have hz1:w.heap.size<w1.heap.size:=by have:=hb1.size;simp at this;omega
 have H1:=hide' hb1;clear hb1;go_wp2_with fail
 go_at_call 140;refine(HS.out _).mono ?_;rintro e w2 ⟨rfl,hb2⟩;have HW:=H1.out.trans (hb2.mono H1.out.size);have k3:=(old_cell HW o hb).trans hc;have k0:=box_cell HW 0;have k1:=box_cell HW 1;have k2:=box_cell HW 2;rw[show((#[.int .i64 2,.slice (some ⟨b,o,none⟩) 1 c,.string val,.string wd,.bool ft,.int .i64 cid]:Array Value)[0]?)=some (.int .i64 2)from rfl]at k0;rw[show((#[.int .i64 2,.slice (some ⟨b,o,none⟩) 1 c,.string val,.string wd,.bool ft,.int .i64 cid]:Array Value)[1]?)=some (.slice (some ⟨b,o,none⟩) 1 c)from rfl]at k1;rw[show((#[.int .i64 2,.slice (some ⟨b,o,none⟩) 1 c,.string val,.string wd,.bool ft,.int .i64 cid]:Array Value)[2]?)=some (.string val)from rfl]at k2;have hz2:w.heap.size<w2.heap.size:=by have:=hb2.size;omega
 have H2:=hide' ((HBa.out _).trans (HW.mono (by simp)));clear hb2 HW hc1 hf1 H1 HC HS HBa hc;have hb2:b<w2.heap.size:=by omega
 go_wp2;go_region_held3 (fun w'=>w'.cell? ⟨w.heap.size,0,none⟩=some (.int .i64 2)∧w'.cell? ⟨w.heap.size,1,none⟩=some (.slice (some ⟨b,o,none⟩) 1 c)∧w'.cell? ⟨w.heap.size,2,none⟩=some (.string val)∧w'.cell? ⟨b,o,none⟩=some (.string key)) (go_keep)
  (first|(go_at_call 141;refine(HF.out _).mono ?_;rintro e w5 ⟨rfl,hB5⟩;have hS5:=(hB5.cell (p:=⟨w.heap.size,0,none⟩) (by simp;omega));have hS6:=(hB5.cell (p:=⟨w.heap.size,1,none⟩) (by simp;omega));have hS7:=(hB5.cell (p:=⟨w.heap.size,2,none⟩) (by simp;omega));have hS8:=(hB5.cell (p:=⟨b,o,none⟩) (by simp;omega));have HB5:=hide3 hB5;clear hB5))
 all_goals
  go_wp2
  go_ret2
  exact⟨ret_said HE.out,(below_drewN (H2.out.alloc (by omega) _) _).trans (HB5.out.mono (by simp;omega))⟩
theorem refask2_3 (b o c:Nat)(key:ByteArray)(val wd:ByteArray)(ft:Bool)(cid id:Int)(w:World)(hs:StrsIn w (some ⟨b,o,none⟩) 1 c [key])(hv:val.size≤maxLen)(hcb:cmdB 3 [key] val=true)(hcan:frSayB 3 1 id=true)(hb:b<w.heap.size)(hcap:1≤c)(hc:w.cell? ⟨b,o,none⟩=some (.string key)):Calls Tryz.prog 101 #[.int .i64 2,cmdV6 3 (.slice (some ⟨b,o,none⟩) 1 c) val wd ft cid,.int .i64 id] w fun e w'=>e= .returned (.tuple #[.string (askS 2 3 [key] val id),.int .i64 0])∧Below w.heap.size w w':=by
 have R:=right_of hcb;have hBa:∀x,Below w.heap.size w (w.alloc x):=fun x=>(Below.refl _ _).alloc (Nat.le_refl _) _
 have HBa:=hide' hBa;clear hBa;have HC:Hid (∀x,Calls Tryz.prog 139 #[cmdV6 3 (.slice (some ⟨b,o,none⟩) 1 c) val wd ft cid] (w.alloc x) fun e w'=>e= .returned (.bool true)∧Below (w.alloc x).heap.size (w.alloc x) w'):=fun x=>by have:=refcmd_any 3 (.slice (some ⟨b,o,none⟩) 1 c) [key] val wd ft cid _ (hs.later (HBa.out x)).strs hv;rwa [hcb]at this
 have HS:Hid (∀W,Calls Tryz.prog 140 #[.int .i64 2,cmdV6 3 (.slice (some ⟨b,o,none⟩) 1 c) val wd ft cid,.int .i64 id] W fun e w'=>e= .returned (.bool true)∧Below W.heap.size W w'):=fun W=>by have:=sayable_2 3 (some ⟨b,o,none⟩) 1 c val wd ft cid id W;rwa [hcan]at this
 have hv40:=R.val40;have hid:0≤id∧id≤65535:=by
  unfold frSayB at hcan;simp at hcan;omega
 have hks:=R.keys key (by simp);have HF:Hid (∀W:World,Calls Tryz.prog 141 #[.int .i64 1,.int .i64 3,.int .i64 key.size,.int .i64 val.size,.int .i64 id] W fun e w'=>e= .returned (.string (headB 1 3 key.size val.size id))∧Below W.heap.size W w'):=fun W=>head_any 1 3 key.size val.size id W (by omega) (by omega) (by omega) (by omega) (by omega)
 have hsz:(headB 1 3 key.size val.size id).size=7:=by unfold headB;rw[strOfNums_size];rfl
 have g1:¬9223372036854775807<7+key.size:=by omega
 have g2:¬9223372036854775807<7+key.size+val.size:=by omega
 have HE:Hid (headB 1 3 key.size val.size id++key++val=askS 2 3 [key] val id):=by show _=_;rfl
 clear R hs hv hcb hcan;have hz:b≠w.heap.size:=by omega
 unfold cmdV6 at*;go_enter Tryz.func101,Tryz.ntmps101;go_wp2_with fail
 go_at_call 139;refine(HC.out _).mono ?_;rintro e w1 ⟨rfl,hb1⟩;obtain⟨hc1,hf1⟩:=bcell hb1;have hz1:w.heap.size<w1.heap.size:=by have:=hb1.size;simp at this;omega
 have H1:=hide' hb1;clear hb1;go_wp2_with fail
 go_at_call 140;refine(HS.out _).mono ?_;rintro e w2 ⟨rfl,hb2⟩;have HW:=H1.out.trans (hb2.mono H1.out.size);have k3:=(old_cell HW o hb).trans hc;have k0:=box_cell HW 0;have k1:=box_cell HW 1;have k2:=box_cell HW 2;rw[show((#[.int .i64 3,.slice (some ⟨b,o,none⟩) 1 c,.string val,.string wd,.bool ft,.int .i64 cid]:Array Value)[0]?)=some (.int .i64 3)from rfl]at k0;rw[show((#[.int .i64 3,.slice (some ⟨b,o,none⟩) 1 c,.string val,.string wd,.bool ft,.int .i64 cid]:Array Value)[1]?)=some (.slice (some ⟨b,o,none⟩) 1 c)from rfl]at k1;rw[show((#[.int .i64 3,.slice (some ⟨b,o,none⟩) 1 c,.string val,.string wd,.bool ft,.int .i64 cid]:Array Value)[2]?)=some (.string val)from rfl]at k2;have hz2:w.heap.size<w2.heap.size:=by have:=hb2.size;omega
 have H2:=hide' ((HBa.out _).trans (HW.mono (by simp)));clear hb2 HW hc1 hf1 H1 HC HS HBa hc;have hb2:b<w2.heap.size:=by omega
 go_wp2;go_region_held3 (fun w'=>w'.cell? ⟨w.heap.size,0,none⟩=some (.int .i64 3)∧w'.cell? ⟨w.heap.size,1,none⟩=some (.slice (some ⟨b,o,none⟩) 1 c)∧w'.cell? ⟨w.heap.size,2,none⟩=some (.string val)∧w'.cell? ⟨b,o,none⟩=some (.string key)) (go_keep)
  (first|(go_at_call 141;refine(HF.out _).mono ?_;rintro e w5 ⟨rfl,hB5⟩;have hS5:=(hB5.cell (p:=⟨w.heap.size,0,none⟩) (by simp;omega));have hS6:=(hB5.cell (p:=⟨w.heap.size,1,none⟩) (by simp;omega));have hS7:=(hB5.cell (p:=⟨w.heap.size,2,none⟩) (by simp;omega));have hS8:=(hB5.cell (p:=⟨b,o,none⟩) (by simp;omega));have HB5:=hide3 hB5;clear hB5))
 all_goals
  go_wp2
  go_ret2
  exact⟨ret_said HE.out,(below_drewN (H2.out.alloc (by omega) _) _).trans (HB5.out.mono (by simp;omega))⟩
end Go.Proofs.YtlonjggfnleolaaGreatDoor
