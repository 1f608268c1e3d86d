/-
  What a right command is; frames: CanSay and Ask.
-/
import Derived.Test.YtlonjggfnleolaaGreatDoorHead
import Derived.Test.YtlonjggfnleolaaGreatDoorDec
import Derived.Test.YtlonjggfnleolaaGreatDoorShelf
import Derived.Test.YtlonjggfnleolaaGreatDoorHash
import Derived.Deep.QuietTactic
import Derived.BigQuiet
import Derived.RegionTactic
import Derived.BigRegion
import Derived.Deep.RegionHeld3
namespace Go.Proofs.YtlonjggfnleolaaGreatDoor
open Go.RowKit
set_option linter.unusedVariables false

theorem hide3 {p : Prop} (h : p) : Hid p := h
theorem emptyB {s : ByteArray} (h : s.toList.isEmpty = true) : s.size = 0 := by
  rw [ByteArray.toList_eq] at h
  have : s.data.toList = [] := by simpa using h
  have h2 : s.data.toList.length = 0 := by rw [this]; rfl
  simpa using h2

/-- What a right command is. -/
structure Right (k : Int) (ss : List ByteArray) (val : ByteArray) : Prop where
  kind : k = 1 ∨ k = 2 ∨ k = 3
  len1 : 1 ≤ ss.length
  len4 : ss.length ≤ 4
  one : k ≠ 1 → ss.length = 1
  keys : ∀ s ∈ ss, s.size ≤ 8
  val40 : val.size ≤ 40
  val0 : k ≠ 2 → val.size = 0

theorem keyB_size {s : ByteArray} (h : keyB s = true) : s.size ≤ 8 := by
  simp only [keyB, withinB, Bool.and_eq_true, decide_eq_true_eq] at h
  omega
theorem keysB_get {ss : List ByteArray} {m : Int} (h : keysB ss m = true) : 1 ≤ ss.length ∧ (ss.length : Int) ≤ m ∧ ∀ s ∈ ss, s.size ≤ 8 := by
  simp only [keysB, withinB, Bool.and_eq_true, decide_eq_true_eq, List.all_eq_true] at h
  exact ⟨by omega, h.1.2, fun s hs => keyB_size (h.2 s hs)⟩
theorem right_of {k : Int} {ss : List ByteArray} {val : ByteArray} (h : cmdB k ss val = true) : Right k ss val := by
  unfold cmdB at h
  split at h
  · rename_i h1
    simp only [Bool.and_eq_true] at h
    obtain ⟨a, b, c⟩ := keysB_get h.1
    have := emptyB h.2
    exact ⟨.inl h1, a, by omega, fun n => absurd h1 n, c, by omega, fun _ => this⟩
  · split at h
    · rename_i h1 h2
      simp only [Bool.and_eq_true, decide_eq_true_eq] at h
      obtain ⟨a, b, c⟩ := keysB_get h.1
      exact ⟨.inr (.inl h2), a, by omega, fun _ => by omega, c, by omega, fun n => absurd h2 n⟩
    · split at h
      · rename_i h1 h2 h3
        simp only [Bool.and_eq_true] at h
        obtain ⟨a, b, c⟩ := keysB_get h.1
        have := emptyB h.2
        exact ⟨.inr (.inr h3), a, by omega, fun _ => by omega, c, by omega, fun _ => this⟩
      · cases h

theorem beq1 (n : Nat) : ((n : Int) == 1) = decide (n = 1) := by
  by_cases h : n = 1
  · simp [h]
  · have : ¬ (n : Int) = 1 := by omega
    simp [h, this]

def frSayB (k : Int) (n : Nat) (id : Int) : Bool := decide (0 ≤ id) && decide (id ≤ 65535) && (decide (k ≠ 1) || decide (n = 1))

set_option maxHeartbeats 2000000 in
theorem canSay2 (k : Int) (a : Option Addr) (n c : Nat) (val wd : ByteArray) (ft : Bool) (cid id : Int) (w : World) :
    Calls Tryz.prog 243 #[.agg #[], cmdV6 k (.slice a n c) val wd ft cid, .int .i64 id] w fun e w' => e = .returned (.bool (frSayB k n id)) ∧ Below w.heap.size w w' := by
  unfold cmdV6
  have hB : ∀ x y, Below w.heap.size w ((w.alloc x).alloc y) := fun x y => ((Below.refl _ _).alloc (Nat.le_refl _) _).alloc (by simp) _
  have HB : Hid (∀ x y, Below w.heap.size w ((w.alloc x).alloc y)) := hB
  clear hB
  by_cases h1 : 0 ≤ id
  · by_cases h2 : id ≤ 65535
    · by_cases h3 : k = 1
      · subst h3
        go_enter Tryz.func243, Tryz.ntmps243
        go_wp2
        go_ret
        exact ⟨ret_bool (by rw [beq1 n]; simp [frSayB, h1, h2]), HB.out _ _⟩
      · have h3' : (k != 1) = true := by simpa using h3
        go_enter Tryz.func243, Tryz.ntmps243
        go_wp2
        go_ret
        exact ⟨ret_bool (by simp [frSayB, h1, h2, h3]), HB.out _ _⟩
    · have h2' : ¬ id ≤ 65535 := h2
      go_enter Tryz.func243, Tryz.ntmps243
      go_wp2
      go_ret
      exact ⟨ret_bool (by have : decide (id ≤ 65535) = false := by simpa using h2'
                          simp [frSayB, this]), HB.out _ _⟩
  · have h1' : ¬ 0 ≤ id := h1
    go_enter Tryz.func243, Tryz.ntmps243
    go_wp2
    go_ret
    exact ⟨ret_bool (by have : decide (0 ≤ id) = false := by simpa using h1'
                        simp [frSayB, this]), HB.out _ _⟩

set_option maxHeartbeats 400000 in
theorem canSay3 (c : Array Value) (id : Int) (w : World) : Calls Tryz.prog 250 #[.agg #[], .agg c, .int .i64 id] w fun e w' => e = .returned (.bool true) ∧ Below w.heap.size w w' := by
  go_enter Tryz.func250, Tryz.ntmps250
  go_wp2
  go_ret
  exact ⟨rfl, ((Below.refl _ _).alloc (Nat.le_refl _) _).alloc (by simp) _⟩
set_option maxHeartbeats 400000 in
theorem canSay1' (c : Array Value) (id : Int) (w : World) : Calls Tryz.prog 210 #[.agg #[], .agg c, .int .i64 id] w fun e w' => e = .returned (.bool true) ∧ Below w.heap.size w w' := by
  go_enter Tryz.func210, Tryz.ntmps210
  go_wp2
  go_ret
  exact ⟨rfl, ((Below.refl _ _).alloc (Nat.le_refl _) _).alloc (by simp) _⟩

set_option maxRecDepth 20000 in
set_option maxHeartbeats 2000000 in
theorem frAsk (k : Int) (b o c : Nat) (key val wd : ByteArray) (ft : Bool) (cid id : Int) (w : World) (hk : k = 1 ∨ k = 2 ∨ k = 3) (hb : b < w.heap.size) (hc : w.cell? ⟨b, o, none⟩ = some (.string key)) (hks : key.size ≤ 8) (hv : val.size ≤ 40) (h1 : 0 ≤ id) (h2 : id ≤ 65535) :
    Calls Tryz.prog 170 #[.agg #[], cmdV6 k (.slice (some ⟨b, o, none⟩) 1 c) val wd ft cid, .int .i64 id] w fun e w' => e = .returned (.string (headB 1 k key.size val.size id ++ key ++ val)) ∧ Below w.heap.size w w' := by
  unfold cmdV6
  have k1 : 0 ≤ k ∧ k < 256 := by omega
  have HF := fun W => frame_any 1 k key.size val.size id W (by omega) k1 (by omega) (by omega) (by omega)
  have HH : Hid (∀ W : World, Calls Tryz.prog 180 #[.int .i64 1, .int .i64 k, .int .i64 key.size, .int .i64 val.size, .int .i64 id] W fun e w' => e = .returned (.string (headB 1 k key.size val.size id)) ∧ Below W.heap.size W w') := HF
  have hsz : (headB 1 k key.size val.size id).size = 7 := by unfold headB; rw [strOfNums_size]; rfl
  have g1 : ¬ 9223372036854775807 < 7 + key.size := by omega
  have g2 : ¬ 9223372036854775807 < 7 + key.size + val.size := by omega
  clear HF k1 hk
  go_enter Tryz.func170, Tryz.ntmps170
  go_wp2
  go_region_held3 (fun w' => w'.cell? ⟨w.heap.size + 1, 0, none⟩ = some (.int .i64 k) ∧ w'.cell? ⟨w.heap.size + 1, 2, none⟩ = some (.string val)) (go_keep)
    (first | (go_at_call 180; refine (HH.out _).mono ?_; rintro e w5 ⟨rfl, hB5⟩; have hS5 := (hB5.cell (p := ⟨w.heap.size + 1, 0, none⟩) (by simp)); have hS6 := (hB5.cell (p := ⟨w.heap.size + 1, 2, none⟩) (by simp)); have HB5 := hide3 hB5; clear hB5))
  go_wp2
  go_ret
  exact ⟨rfl, ((((Below.refl _ _).alloc (Nat.le_refl _) _).alloc (by simp) _).drew).trans (HB5.out.mono (by simp [Nat.le_add_right, Nat.add_assoc]))⟩
end Go.Proofs.YtlonjggfnleolaaGreatDoor
