/-
  frames: Tell; the reference: frames.
-/
import Derived.Test.YtlonjggfnleolaaGreatDoorRefAns

namespace Go.Proofs.YtlonjggfnleolaaGreatDoor
open Go.RowKit
set_option linter.unusedVariables false

/-- The status of an answer that tells of no value. -/
def stB (ak : Int) : Int := if ak = 5 then 2 else if ak = 4 then 1 else 0
theorem stB_bd (ak : Int) : 0 ≤ stB ak ∧ stB ak < 256 := by unfold stB; split; omega; split <;> omega

set_option maxHeartbeats 1000000 in
theorem status_plain (ak : Int) (fv vv : Value) (wd : ByteArray) (w : World) (h1 : ak ≠ 1) :
    Calls Tryz.prog 248 #[ansV ak fv vv wd] w fun e w' => e = .returned (.int .i64 (stB ak)) ∧ Below w.heap.size w w' := by
  unfold ansV
  have HB := hide' (show ∀ x, Below w.heap.size w (w.alloc x) from fun x => (Below.refl _ _).alloc (Nat.le_refl _) _)
  have k1 : (ak == 1) = false := by simpa using h1
  by_cases h5 : ak = 5
  · subst h5
    go_enter Tryz.func248, Tryz.ntmps248
    go_wp2
    go_ret
    exact ⟨rfl, HB.out _⟩
  · have k5 : (ak == 5) = false := by simpa using h5
    by_cases h4 : ak = 4
    · subst h4
      go_enter Tryz.func248, Tryz.ntmps248
      go_wp2
      go_ret
      exact ⟨rfl, HB.out _⟩
    · have k4 : (ak == 4) = false := by simpa using h4
      have HH := hide' (show stB ak = 0 by unfold stB; rw [if_neg h5, if_neg h4])
      clear h1 h5 h4
      go_enter Tryz.func248, Tryz.ntmps248
      go_wp2
      go_ret
      exact ⟨by rw [HH.out]; rfl, HB.out _⟩
/-- The ID under which an answer is told. -/
def tidB (ck id : Int) : Int := if ck = 4 then 0 else id

set_option maxRecDepth 20000 in
set_option maxHeartbeats 2000000 in
theorem frTell_plain (ck : Int) (kv : Value) (val cw : ByteArray) (ft : Bool) (cid : Int) (ak : Int) (fv vv : Value) (wd : ByteArray) (id : Int) (w : World) (h1 : ak ≠ 1) (i0 : 0 ≤ id) (i1 : id ≤ 65535) :
    Calls Tryz.prog 245 #[.agg #[], cmdV6 ck kv val cw ft cid, ansV ak fv vv wd, .int .i64 id] w fun e w' => e = .returned (.string (headB 2 (stB ak) 0 0 (tidB ck id))) ∧ Below w.heap.size w w' := by
  have HB3 := hide' (show ∀ x y z, Below w.heap.size w (((w.alloc x).alloc y).alloc z) from fun x y z => (((Below.refl _ _).alloc (Nat.le_refl _) _).alloc (by simp) _).alloc (by simp; omega) _)
  have HS : Hid (∀ W, Calls Tryz.prog 248 #[ansV ak fv vv wd] W fun e w' => e = .returned (.int .i64 (stB ak)) ∧ Below W.heap.size W w') := fun W => status_plain ak fv vv wd W h1
  have hs := stB_bd ak
  have hsz : (headB 2 (stB ak) 0 0 (tidB ck id)).size = 7 := by unfold headB; rw [strOfNums_size]; rfl
  have k1 : (ak == 1) = false := by simpa using h1
  have HF : Hid (∀ i W, 0 ≤ i → i ≤ 65535 → Calls Tryz.prog 180 #[.int .i64 2, .int .i64 (stB ak), .int .i64 0, .int .i64 0, .int .i64 i] W fun e w' => e = .returned (.string (headB 2 (stB ak) 0 0 i)) ∧ Below W.heap.size W w') := fun i W a b => frame_any 2 (stB ak) 0 0 i W (by omega) (by omega) (by omega) (by omega) (by omega)
  generalize stB ak = S at *
  clear h1
  unfold cmdV6 ansV at *
  by_cases h4 : ck = 4
  · subst h4
    have e : tidB 4 id = 0 := rfl
    rw [e] at *
    go_enter Tryz.func245, Tryz.ntmps245
    go_wp2_with fail
    go_at_call 248
    refine (HS.out _).mono ?_
    rintro e w1 ⟨rfl, hb1⟩
    have H1 := hide' ((HB3.out _ _ _).trans (hb1.mono (by simp; omega)))
    clear hb1
    go_wp2_with fail
    go_at_call 180
    refine (HF.out 0 _ (by omega) (by omega)).mono ?_
    rintro e w2 ⟨rfl, hb2⟩
    have H2 := hide' (H1.out.trans (hb2.mono H1.out.size))
    clear hb2
    go_wp2
    go_ret
    exact ⟨ret_str rfl, H2.out⟩
  · have k4 : (ck == 4) = false := by simpa using h4
    have e : tidB ck id = id := by unfold tidB; rw [if_neg h4]
    rw [e] at *
    go_enter Tryz.func245, Tryz.ntmps245
    go_wp2_with fail
    go_at_call 248
    refine (HS.out _).mono ?_
    rintro e w1 ⟨rfl, hb1⟩
    have H1 := hide' ((HB3.out _ _ _).trans (hb1.mono (by simp; omega)))
    clear hb1
    go_wp2_with fail
    go_at_call 180
    refine (HF.out id _ i0 i1).mono ?_
    rintro e w2 ⟨rfl, hb2⟩
    have H2 := hide' (H1.out.trans (hb2.mono H1.out.size))
    clear hb2
    go_wp2
    go_ret
    exact ⟨ret_str rfl, H2.out⟩

set_option maxRecDepth 20000 in
set_option maxHeartbeats 2000000 in
theorem refFrames_plain (ak : Int) (fv vv : Value) (wd : ByteArray) (id : Int) (w : World) (h1 : ak ≠ 1) (i0 : 0 ≤ id) (i1 : id ≤ 65535) :
    Calls Tryz.prog 146 #[ansV ak fv vv wd, .int .i64 id] w fun e w' => e = .returned (.string (headB 2 (stB ak) 0 0 id)) ∧ Below w.heap.size w w' := by
  have HB := hide' (show ∀ x, Below w.heap.size w (w.alloc x) from fun x => (Below.refl _ _).alloc (Nat.le_refl _) _)
  have HF : Hid (∀ S W, 0 ≤ S → S < 256 → Calls Tryz.prog 141 #[.int .i64 2, .int .i64 S, .int .i64 0, .int .i64 0, .int .i64 id] W fun e w' => e = .returned (.string (headB 2 S 0 0 id)) ∧ Below W.heap.size W w') := fun S W a b => head_any 2 S 0 0 id W (by omega) (by omega) (by omega) (by omega) (by omega)
  have k1 : (ak == 1) = false := by simpa using h1
  unfold ansV at *
  by_cases h5 : ak = 5
  · subst h5
    go_enter Tryz.func146, Tryz.ntmps146
    go_wp2_with fail
    go_at_call 141
    refine (HF.out 2 _ (by omega) (by omega)).mono ?_
    rintro e w1 ⟨rfl, hb1⟩
    have H1 := hide' ((HB.out _).trans (hb1.mono (by simp)))
    clear hb1
    go_wp2
    go_ret
    exact ⟨ret_str rfl, H1.out⟩
  · have k5 : (ak == 5) = false := by simpa using h5
    by_cases h4 : ak = 4
    · subst h4
      go_enter Tryz.func146, Tryz.ntmps146
      go_wp2_with fail
      go_at_call 141
      refine (HF.out 1 _ (by omega) (by omega)).mono ?_
      rintro e w1 ⟨rfl, hb1⟩
      have H1 := hide' ((HB.out _).trans (hb1.mono (by simp)))
      clear hb1
      go_wp2
      go_ret
      exact ⟨ret_str rfl, H1.out⟩
    · have k4 : (ak == 4) = false := by simpa using h4
      have HH := hide' (show stB ak = 0 by unfold stB; rw [if_neg h5, if_neg h4])
      clear h1 h5 h4
      go_enter Tryz.func146, Tryz.ntmps146
      go_wp2_with fail
      go_at_call 141
      refine (HF.out 0 _ (by omega) (by omega)).mono ?_
      rintro e w1 ⟨rfl, hb1⟩
      have H1 := hide' ((HB.out _).trans (hb1.mono (by simp)))
      clear hb1
      go_wp2
      go_ret
      exact ⟨ret_str (by rw [HH.out]), H1.out⟩

end Go.Proofs.YtlonjggfnleolaaGreatDoor


/-
  lines and lists: Tell without values; the reference likewise.
-/

namespace Go.Proofs.YtlonjggfnleolaaGreatDoor
open Go.RowKit
set_option linter.unusedVariables false

/-- What lines tell of an answer without values. -/
def liTellB (ak : Int) (wd : ByteArray) : ByteArray := if ak = 2 then ⟨#[100, 111, 110, 101, 10]⟩ else if ak = 3 then ⟨#[103, 111, 110, 101, 10]⟩ else if ak = 4 then ⟨#[110, 111, 110, 101, 10]⟩ else ⟨#[102, 97, 105, 108, 32]⟩ ++ wd ++ ⟨#[10]⟩
set_option maxHeartbeats 1000000 in
theorem liTell_plain (ck : Int) (kv : Value) (val cw : ByteArray) (ft : Bool) (cid : Int) (ak : Int) (fv vv : Value) (wd : ByteArray) (id : Int) (w : World) (hk : ak = 2 ∨ ak = 3 ∨ ak = 4 ∨ ak = 5) (hw : ak = 5 → wd.size ≤ 8) :
    Calls Tryz.prog 212 #[.agg #[], cmdV6 ck kv val cw ft cid, ansV ak fv vv wd, .int .i64 id] w fun e w' => e = .returned (.string (liTellB ak wd)) ∧ Below w.heap.size w w' := by
  have HB3 := hide' (show ∀ x y z, Below w.heap.size w (((w.alloc x).alloc y).alloc z) from fun x y z => (((Below.refl _ _).alloc (Nat.le_refl _) _).alloc (by simp) _).alloc (by simp; omega) _)
  unfold cmdV6 ansV
  rcases hk with rfl | rfl | rfl | rfl
  all_goals
    first | (have hw := hw rfl) | clear hw
    go_enter Tryz.func212, Tryz.ntmps212
    go_wp2
    go_ret
    exact ⟨ret_str rfl, HB3.out _ _ _⟩
def lsTellB (ak : Int) (wd : ByteArray) : ByteArray := if ak = 2 then ⟨#[43, 100, 111, 110, 101, 10]⟩ else if ak = 3 then ⟨#[58, 49, 10]⟩ else if ak = 4 then ⟨#[58, 48, 10]⟩ else ⟨#[45]⟩ ++ wd ++ ⟨#[10]⟩
set_option maxHeartbeats 1000000 in
theorem lsTell_plain (ck : Int) (kv : Value) (val cw : ByteArray) (ft : Bool) (cid : Int) (ak : Int) (fv vv : Value) (wd : ByteArray) (id : Int) (w : World) (hk : ak = 2 ∨ ak = 3 ∨ ak = 4 ∨ ak = 5) (hw : ak = 5 → wd.size ≤ 8) :
    Calls Tryz.prog 252 #[.agg #[], cmdV6 ck kv val cw ft cid, ansV ak fv vv wd, .int .i64 id] w fun e w' => e = .returned (.string (lsTellB ak wd)) ∧ Below w.heap.size w w' := by
  have HB3 := hide' (show ∀ x y z, Below w.heap.size w (((w.alloc x).alloc y).alloc z) from fun x y z => (((Below.refl _ _).alloc (Nat.le_refl _) _).alloc (by simp) _).alloc (by simp; omega) _)
  unfold cmdV6 ansV
  rcases hk with rfl | rfl | rfl | rfl
  all_goals
    first | (have hw := hw rfl) | clear hw
    go_enter Tryz.func252, Tryz.ntmps252
    go_wp2
    go_ret
    exact ⟨ret_str rfl, HB3.out _ _ _⟩
set_option maxHeartbeats 1000000 in
theorem refLines_plain (ck : Int) (kv : Value) (val cw : ByteArray) (ft : Bool) (cid : Int) (ak : Int) (fv vv : Value) (wd : ByteArray) (w : World) (hk : ak = 2 ∨ ak = 3 ∨ ak = 4 ∨ ak = 5) (hw : ak = 5 → wd.size ≤ 8) :
    Calls Tryz.prog 145 #[cmdV6 ck kv val cw ft cid, ansV ak fv vv wd] w fun e w' => e = .returned (.string (liTellB ak wd)) ∧ Below w.heap.size w w' := by
  have HB2 := hide' (show ∀ x y, Below w.heap.size w ((w.alloc x).alloc y) from fun x y => ((Below.refl _ _).alloc (Nat.le_refl _) _).alloc (by simp) _)
  unfold cmdV6 ansV
  rcases hk with rfl | rfl | rfl | rfl
  all_goals
    first | (have hw := hw rfl) | clear hw
    go_enter Tryz.func145, Tryz.ntmps145
    go_wp2
    go_ret
    exact ⟨ret_str rfl, HB2.out _ _⟩
set_option maxHeartbeats 1000000 in
theorem refLists_plain (ak : Int) (fv vv : Value) (wd : ByteArray) (w : World) (hk : ak = 2 ∨ ak = 3 ∨ ak = 4 ∨ ak = 5) (hw : ak = 5 → wd.size ≤ 8) :
    Calls Tryz.prog 147 #[ansV ak fv vv wd] w fun e w' => e = .returned (.string (lsTellB ak wd)) ∧ Below w.heap.size w w' := by
  have HB := hide' (show ∀ x, Below w.heap.size w (w.alloc x) from fun x => (Below.refl _ _).alloc (Nat.le_refl _) _)
  unfold ansV
  rcases hk with rfl | rfl | rfl | rfl
  all_goals
    first | (have hw := hw rfl) | clear hw
    go_enter Tryz.func147, Tryz.ntmps147
    go_wp2
    go_ret
    exact ⟨ret_str rfl, HB.out _⟩
end Go.Proofs.YtlonjggfnleolaaGreatDoor


/-
  The reference: Tell, upon what lines, frames, lists answer.
-/

namespace Go.Proofs.YtlonjggfnleolaaGreatDoor
open Go.RowKit
set_option linter.unusedVariables false

set_option maxRecDepth 20000 in
set_option maxHeartbeats 2000000 in
theorem refTell_bada (d : Int) (ck : Int) (a : Option Addr) (n c : Nat) (ss : List ByteArray) (val cw : ByteArray) (ft : Bool) (cid : Int) (ak : Int) (fa va : Option Addr) (fn fc vn vc : Nat) (bs : List Bool) (vs : List ByteArray) (wd : ByteArray) (id : Int) (w : World) (hs : StrsIn w a n c ss) (hval : val.size ≤ maxLen) (hf : BoolsIn w fa fn fc bs) (hv : StrsIn w va vn vc vs) (hw : wd.size ≤ maxLen) (ha : answerB ck ss val ak bs vs wd = false) :
    Calls Tryz.prog 104 #[.int .i64 d, cmdV6 ck (.slice a n c) val cw ft cid, ansV ak (.slice fa fn fc) (.slice va vn vc) wd, .int .i64 id] w fun e w' => e = .returned (.tuple #[.string ⟨#[]⟩, .int .i64 1]) ∧ Below w.heap.size w w' := by
  have HB2 := hide' (show ∀ x y, Below w.heap.size w ((w.alloc x).alloc y) from fun x y => ((Below.refl _ _).alloc (Nat.le_refl _) _).alloc (by simp) _)
  have HC : Hid (∀ x y, Calls Tryz.prog 144 #[cmdV6 ck (.slice a n c) val cw ft cid, ansV ak (.slice fa fn fc) (.slice va vn vc) wd] ((w.alloc x).alloc y) fun e w' => e = .returned (.bool (answerB ck ss val ak bs vs wd)) ∧ Below ((w.alloc x).alloc y).heap.size ((w.alloc x).alloc y) w') := fun x y => refanswer_any ck a n c ss val cw ft cid ak fa va fn fc vn vc bs vs wd _ (hs.later (HB2.out x y)) hval (hf.later (HB2.out x y)) (hv.later (HB2.out x y)) hw
  have HS : Hid (∀ W, Calls Tryz.prog 140 #[.int .i64 d, cmdV6 ck (.slice a n c) val cw ft cid, .int .i64 id] W fun e w' => e = .returned (.bool (sayB d ck n id)) ∧ Below W.heap.size W w') := fun W => sayable_any d ck a n c val cw ft cid id W
  rw [ha] at HC
  generalize sayB d ck n id = S at *
  clear hs hval hf hv hw ha
  unfold cmdV6 ansV at *
  go_enter Tryz.func104, Tryz.ntmps104
  go_wp2_with fail
  go_at_call 144
  refine (HC.out _ _).mono ?_
  rintro e w1 ⟨rfl, hb1⟩
  obtain ⟨hc1, hf1⟩ := bcell hb1
  have hz1 : w.heap.size + 1 < w1.heap.size := by have := hb1.size; simp at this; omega
  have hy1 : w.heap.size < w1.heap.size := by omega
  have H1 := hide' ((HB2.out _ _).trans (hb1.mono (by simp; omega)))
  clear hb1
  go_wp2_with fail
  go_at_call 140
  refine (HS.out _).mono ?_
  rintro e w2 ⟨rfl, hb2⟩
  obtain ⟨hc2, hf2⟩ := bcell hb2
  have hz2 : w.heap.size + 1 < w2.heap.size := by have := hb2.size; omega
  have hy2 : w.heap.size < w2.heap.size := by omega
  have H2 := hide' (H1.out.trans (hb2.mono H1.out.size))
  clear hb2 HC HS H1 HB2
  go_wp2
  go_ret2
  exact ⟨rfl, H2.out⟩

set_option maxRecDepth 20000 in
set_option maxHeartbeats 2000000 in
theorem refTell_good1 (ck : Int) (a : Option Addr) (n c : Nat) (ss : List ByteArray) (val cw : ByteArray) (ft : Bool) (cid : Int) (ak : Int) (fa va : Option Addr) (fn fc vn vc : Nat) (bs : List Bool) (vs : List ByteArray) (wd : ByteArray) (id : Int) (w : World) (hs : StrsIn w a n c ss) (hval : val.size ≤ maxLen) (hf : BoolsIn w fa fn fc bs) (hv : StrsIn w va vn vc vs) (hw : wd.size ≤ maxLen) (ha : answerB ck ss val ak bs vs wd = true) (out : ByteArray)
    (HO : ∀ W, Below w.heap.size w W → Calls Tryz.prog 145 #[cmdV6 ck (.slice a n c) val cw ft cid, ansV ak (.slice fa fn fc) (.slice va vn vc) wd] W fun e w' => e = .returned (.string out) ∧ Below W.heap.size W w') :
    Calls Tryz.prog 104 #[.int .i64 1, cmdV6 ck (.slice a n c) val cw ft cid, ansV ak (.slice fa fn fc) (.slice va vn vc) wd, .int .i64 id] w fun e w' => e = .returned (.tuple #[.string out, .int .i64 0]) ∧ Below w.heap.size w w' := by
  have HB2 := hide' (show ∀ x y, Below w.heap.size w ((w.alloc x).alloc y) from fun x y => ((Below.refl _ _).alloc (Nat.le_refl _) _).alloc (by simp) _)
  have HC : Hid (∀ x y, Calls Tryz.prog 144 #[cmdV6 ck (.slice a n c) val cw ft cid, ansV ak (.slice fa fn fc) (.slice va vn vc) wd] ((w.alloc x).alloc y) fun e w' => e = .returned (.bool (answerB ck ss val ak bs vs wd)) ∧ Below ((w.alloc x).alloc y).heap.size ((w.alloc x).alloc y) w') := fun x y => refanswer_any ck a n c ss val cw ft cid ak fa va fn fc vn vc bs vs wd _ (hs.later (HB2.out x y)) hval (hf.later (HB2.out x y)) (hv.later (HB2.out x y)) hw
  have HS : Hid (∀ W, Calls Tryz.prog 140 #[.int .i64 1, cmdV6 ck (.slice a n c) val cw ft cid, .int .i64 id] W fun e w' => e = .returned (.bool (sayB 1 ck n id)) ∧ Below W.heap.size W w') := fun W => sayable_any 1 ck a n c val cw ft cid id W
  rw [ha] at HC
  rw [show sayB 1 ck n id = true from rfl] at HS
  have HOO := hide' HO
  clear hs hval hf hv hw ha HO
  unfold cmdV6 ansV at *
  go_enter Tryz.func104, Tryz.ntmps104
  go_wp2_with fail
  go_at_call 144
  refine (HC.out _ _).mono ?_
  rintro e w1 ⟨rfl, hb1⟩
  obtain ⟨hc1, hf1⟩ := bcell hb1
  have hz1 : w.heap.size + 1 < w1.heap.size := by have := hb1.size; simp at this; omega
  have hy1 : w.heap.size < w1.heap.size := by omega
  have H1 := hide' ((HB2.out _ _).trans (hb1.mono (by simp; omega)))
  clear hb1
  go_wp2_with fail
  go_at_call 140
  refine (HS.out _).mono ?_
  rintro e w2 ⟨rfl, hb2⟩
  obtain ⟨hc2, hf2⟩ := bcell hb2
  have hz2 : w.heap.size + 1 < w2.heap.size := by have := hb2.size; omega
  have hy2 : w.heap.size < w2.heap.size := by omega
  have H2 := hide' (H1.out.trans (hb2.mono H1.out.size))
  clear hb2 HC HS H1 HB2
  go_wp2_with fail
  go_at_call 145
  refine (HOO.out _ H2.out).mono ?_
  rintro e w3 ⟨rfl, hb3⟩
  have H3 := hide' (H2.out.trans (hb3.mono H2.out.size))
  clear hb3
  go_wp2
  go_ret2
  exact ⟨rfl, H3.out⟩

set_option maxRecDepth 20000 in
set_option maxHeartbeats 2000000 in
theorem refTell_good3 (ck : Int) (a : Option Addr) (n c : Nat) (ss : List ByteArray) (val cw : ByteArray) (ft : Bool) (cid : Int) (ak : Int) (fa va : Option Addr) (fn fc vn vc : Nat) (bs : List Bool) (vs : List ByteArray) (wd : ByteArray) (id : Int) (w : World) (hs : StrsIn w a n c ss) (hval : val.size ≤ maxLen) (hf : BoolsIn w fa fn fc bs) (hv : StrsIn w va vn vc vs) (hw : wd.size ≤ maxLen) (ha : answerB ck ss val ak bs vs wd = true) (out : ByteArray)
    (HO : ∀ W, Below w.heap.size w W → Calls Tryz.prog 147 #[ansV ak (.slice fa fn fc) (.slice va vn vc) wd] W fun e w' => e = .returned (.string out) ∧ Below W.heap.size W w') :
    Calls Tryz.prog 104 #[.int .i64 3, cmdV6 ck (.slice a n c) val cw ft cid, ansV ak (.slice fa fn fc) (.slice va vn vc) wd, .int .i64 id] w fun e w' => e = .returned (.tuple #[.string out, .int .i64 0]) ∧ Below w.heap.size w w' := by
  have HB2 := hide' (show ∀ x y, Below w.heap.size w ((w.alloc x).alloc y) from fun x y => ((Below.refl _ _).alloc (Nat.le_refl _) _).alloc (by simp) _)
  have HC : Hid (∀ x y, Calls Tryz.prog 144 #[cmdV6 ck (.slice a n c) val cw ft cid, ansV ak (.slice fa fn fc) (.slice va vn vc) wd] ((w.alloc x).alloc y) fun e w' => e = .returned (.bool (answerB ck ss val ak bs vs wd)) ∧ Below ((w.alloc x).alloc y).heap.size ((w.alloc x).alloc y) w') := fun x y => refanswer_any ck a n c ss val cw ft cid ak fa va fn fc vn vc bs vs wd _ (hs.later (HB2.out x y)) hval (hf.later (HB2.out x y)) (hv.later (HB2.out x y)) hw
  have HS : Hid (∀ W, Calls Tryz.prog 140 #[.int .i64 3, cmdV6 ck (.slice a n c) val cw ft cid, .int .i64 id] W fun e w' => e = .returned (.bool (sayB 3 ck n id)) ∧ Below W.heap.size W w') := fun W => sayable_any 3 ck a n c val cw ft cid id W
  rw [ha] at HC
  rw [show sayB 3 ck n id = true from rfl] at HS
  have HOO := hide' HO
  clear hs hval hf hv hw ha HO
  unfold cmdV6 ansV at *
  go_enter Tryz.func104, Tryz.ntmps104
  go_wp2_with fail
  go_at_call 144
  refine (HC.out _ _).mono ?_
  rintro e w1 ⟨rfl, hb1⟩
  obtain ⟨hc1, hf1⟩ := bcell hb1
  have hz1 : w.heap.size + 1 < w1.heap.size := by have := hb1.size; simp at this; omega
  have hy1 : w.heap.size < w1.heap.size := by omega
  have H1 := hide' ((HB2.out _ _).trans (hb1.mono (by simp; omega)))
  clear hb1
  go_wp2_with fail
  go_at_call 140
  refine (HS.out _).mono ?_
  rintro e w2 ⟨rfl, hb2⟩
  obtain ⟨hc2, hf2⟩ := bcell hb2
  have hz2 : w.heap.size + 1 < w2.heap.size := by have := hb2.size; omega
  have hy2 : w.heap.size < w2.heap.size := by omega
  have H2 := hide' (H1.out.trans (hb2.mono H1.out.size))
  clear hb2 HC HS H1 HB2
  go_wp2_with fail
  go_at_call 147
  refine (HOO.out _ H2.out).mono ?_
  rintro e w3 ⟨rfl, hb3⟩
  have H3 := hide' (H2.out.trans (hb3.mono H2.out.size))
  clear hb3
  go_wp2
  go_ret2
  exact ⟨rfl, H3.out⟩

set_option maxRecDepth 20000 in
set_option maxHeartbeats 2000000 in
theorem refTell_good2w (a : Option Addr) (n c : Nat) (ss : List ByteArray) (val cw : ByteArray) (ft : Bool) (cid : Int) (ak : Int) (fa va : Option Addr) (fn fc vn vc : Nat) (bs : List Bool) (vs : List ByteArray) (wd : ByteArray) (id : Int) (w : World) (hs : StrsIn w a n c ss) (hval : val.size ≤ maxLen) (hf : BoolsIn w fa fn fc bs) (hv : StrsIn w va vn vc vs) (hw : wd.size ≤ maxLen) (ha : answerB 4 ss val ak bs vs wd = true) (hd : sayB 2 4 n id = true) (out : ByteArray)
    (HO : ∀ W, Below w.heap.size w W → Calls Tryz.prog 146 #[ansV ak (.slice fa fn fc) (.slice va vn vc) wd, .int .i64 0] W fun e w' => e = .returned (.string out) ∧ Below W.heap.size W w') :
    Calls Tryz.prog 104 #[.int .i64 2, cmdV6 4 (.slice a n c) val cw ft cid, ansV ak (.slice fa fn fc) (.slice va vn vc) wd, .int .i64 id] w fun e w' => e = .returned (.tuple #[.string out, .int .i64 0]) ∧ Below w.heap.size w w' := by
  have HB2 := hide' (show ∀ x y, Below w.heap.size w ((w.alloc x).alloc y) from fun x y => ((Below.refl _ _).alloc (Nat.le_refl _) _).alloc (by simp) _)
  have HC : Hid (∀ x y, Calls Tryz.prog 144 #[cmdV6 4 (.slice a n c) val cw ft cid, ansV ak (.slice fa fn fc) (.slice va vn vc) wd] ((w.alloc x).alloc y) fun e w' => e = .returned (.bool (answerB 4 ss val ak bs vs wd)) ∧ Below ((w.alloc x).alloc y).heap.size ((w.alloc x).alloc y) w') := fun x y => refanswer_any 4 a n c ss val cw ft cid ak fa va fn fc vn vc bs vs wd _ (hs.later (HB2.out x y)) hval (hf.later (HB2.out x y)) (hv.later (HB2.out x y)) hw
  have HS : Hid (∀ W, Calls Tryz.prog 140 #[.int .i64 2, cmdV6 4 (.slice a n c) val cw ft cid, .int .i64 id] W fun e w' => e = .returned (.bool (sayB 2 4 n id)) ∧ Below W.heap.size W w') := fun W => sayable_any 2 4 a n c val cw ft cid id W
  rw [ha] at HC
  rw [hd] at HS
  have HOO := hide' HO
  clear hs hval hf hv hw ha HO hd
  unfold cmdV6 ansV at *
  go_enter Tryz.func104, Tryz.ntmps104
  go_wp2_with fail
  go_at_call 144
  refine (HC.out _ _).mono ?_
  rintro e w1 ⟨rfl, hb1⟩
  obtain ⟨hc1, hf1⟩ := bcell hb1
  have hz1 : w.heap.size + 1 < w1.heap.size := by have := hb1.size; simp at this; omega
  have hy1 : w.heap.size < w1.heap.size := by omega
  have H1 := hide' ((HB2.out _ _).trans (hb1.mono (by simp; omega)))
  clear hb1
  go_wp2_with fail
  go_at_call 140
  refine (HS.out _).mono ?_
  rintro e w2 ⟨rfl, hb2⟩
  obtain ⟨hc2, hf2⟩ := bcell hb2
  have hz2 : w.heap.size + 1 < w2.heap.size := by have := hb2.size; omega
  have hy2 : w.heap.size < w2.heap.size := by omega
  have H2 := hide' (H1.out.trans (hb2.mono H1.out.size))
  clear hb2 HC HS H1 HB2
  go_wp2_with fail
  go_at_call 146
  refine (HOO.out _ H2.out).mono ?_
  rintro e w3 ⟨rfl, hb3⟩
  have H3 := hide' (H2.out.trans (hb3.mono H2.out.size))
  clear hb3
  go_wp2
  go_ret2
  exact ⟨rfl, H3.out⟩

end Go.Proofs.YtlonjggfnleolaaGreatDoor
