/-
  lines and lists: Tell without values; the reference likewise.
-/
import Derived.Test.YtlonjggfnleolaaGreatDoorRefAns
namespace Go.Proofs.YtlonjggfnleolaaGreatDoor
open Go.RowKit
set_option linter.unusedVariables false

/-- What lines tell of an answer without values. -/
def liTellB (ak : Int) (wd : ByteArray) : ByteArray := if ak = 2 then ⟨#[100, 111, 110, 101, 10]⟩ else if ak = 3 then ⟨#[103, 111, 110, 101, 10]⟩ else if ak = 4 then ⟨#[110, 111, 110, 101, 10]⟩ else ⟨#[102, 97, 105, 108, 32]⟩ ++ wd ++ ⟨#[10]⟩
set_option maxHeartbeats 1000000 in
theorem liTell_plain (ck : Int) (kv : Value) (val cw : ByteArray) (ft : Bool) (cid : Int) (ak : Int) (fv vv : Value) (wd : ByteArray) (id : Int) (w : World) (hk : ak = 2 ∨ ak = 3 ∨ ak = 4 ∨ ak = 5) (hw : ak = 5 → wd.size ≤ 8) :
    Calls Tryz.prog 212 #[.agg #[], cmdV6 ck kv val cw ft cid, ansV ak fv vv wd, .int .i64 id] w fun e w' => e = .returned (.string (liTellB ak wd)) ∧ Below w.heap.size w w' := by
  have HB3 := hide' (show ∀ x y z, Below w.heap.size w (((w.alloc x).alloc y).alloc z) from fun x y z => (((Below.refl _ _).alloc (Nat.le_refl _) _).alloc (by simp) _).alloc (by simp; omega) _)
  unfold cmdV6 ansV
  rcases hk with rfl | rfl | rfl | rfl
  all_goals
    first | (have hw := hw rfl) | clear hw
    go_enter Tryz.func212, Tryz.ntmps212
    go_wp2
    go_ret
    exact ⟨ret_str rfl, HB3.out _ _ _⟩
def lsTellB (ak : Int) (wd : ByteArray) : ByteArray := if ak = 2 then ⟨#[43, 100, 111, 110, 101, 10]⟩ else if ak = 3 then ⟨#[58, 49, 10]⟩ else if ak = 4 then ⟨#[58, 48, 10]⟩ else ⟨#[45]⟩ ++ wd ++ ⟨#[10]⟩
set_option maxHeartbeats 1000000 in
theorem lsTell_plain (ck : Int) (kv : Value) (val cw : ByteArray) (ft : Bool) (cid : Int) (ak : Int) (fv vv : Value) (wd : ByteArray) (id : Int) (w : World) (hk : ak = 2 ∨ ak = 3 ∨ ak = 4 ∨ ak = 5) (hw : ak = 5 → wd.size ≤ 8) :
    Calls Tryz.prog 252 #[.agg #[], cmdV6 ck kv val cw ft cid, ansV ak fv vv wd, .int .i64 id] w fun e w' => e = .returned (.string (lsTellB ak wd)) ∧ Below w.heap.size w w' := by
  have HB3 := hide' (show ∀ x y z, Below w.heap.size w (((w.alloc x).alloc y).alloc z) from fun x y z => (((Below.refl _ _).alloc (Nat.le_refl _) _).alloc (by simp) _).alloc (by simp; omega) _)
  unfold cmdV6 ansV
  rcases hk with rfl | rfl | rfl | rfl
  all_goals
    first | (have hw := hw rfl) | clear hw
    go_enter Tryz.func252, Tryz.ntmps252
    go_wp2
    go_ret
    exact ⟨ret_str rfl, HB3.out _ _ _⟩
set_option maxHeartbeats 1000000 in
theorem refLines_plain (ck : Int) (kv : Value) (val cw : ByteArray) (ft : Bool) (cid : Int) (ak : Int) (fv vv : Value) (wd : ByteArray) (w : World) (hk : ak = 2 ∨ ak = 3 ∨ ak = 4 ∨ ak = 5) (hw : ak = 5 → wd.size ≤ 8) :
    Calls Tryz.prog 145 #[cmdV6 ck kv val cw ft cid, ansV ak fv vv wd] w fun e w' => e = .returned (.string (liTellB ak wd)) ∧ Below w.heap.size w w' := by
  have HB2 := hide' (show ∀ x y, Below w.heap.size w ((w.alloc x).alloc y) from fun x y => ((Below.refl _ _).alloc (Nat.le_refl _) _).alloc (by simp) _)
  unfold cmdV6 ansV
  rcases hk with rfl | rfl | rfl | rfl
  all_goals
    first | (have hw := hw rfl) | clear hw
    go_enter Tryz.func145, Tryz.ntmps145
    go_wp2
    go_ret
    exact ⟨ret_str rfl, HB2.out _ _⟩
set_option maxHeartbeats 1000000 in
theorem refLists_plain (ak : Int) (fv vv : Value) (wd : ByteArray) (w : World) (hk : ak = 2 ∨ ak = 3 ∨ ak = 4 ∨ ak = 5) (hw : ak = 5 → wd.size ≤ 8) :
    Calls Tryz.prog 147 #[ansV ak fv vv wd] w fun e w' => e = .returned (.string (lsTellB ak wd)) ∧ Below w.heap.size w w' := by
  have HB := hide' (show ∀ x, Below w.heap.size w (w.alloc x) from fun x => (Below.refl _ _).alloc (Nat.le_refl _) _)
  unfold ansV
  rcases hk with rfl | rfl | rfl | rfl
  all_goals
    first | (have hw := hw rfl) | clear hw
    go_enter Tryz.func147, Tryz.ntmps147
    go_wp2
    go_ret
    exact ⟨ret_str rfl, HB.out _⟩
end Go.Proofs.YtlonjggfnleolaaGreatDoor
