/-
  junctionkeep.words returns true.
-/
import Derived.Test.YtlonjggfnleolaaGreatDoorFeedEx
import Derived.Test.YtlonjggfnleolaaGreatDoorAskW
import Derived.Test.YtlonjggfnleolaaGreatDoorRing
namespace Go.Proofs.YtlonjggfnleolaaGreatDoor
open Go.RowKit
set_option linter.unusedVariables false

theorem keyA : keyB ⟨#[97]⟩ = true := by decide +kernel

set_option maxRecDepth 20000 in
set_option maxHeartbeats 2000000 in
theorem words_any (w : World) : Calls Tryz.prog 16 #[] w fun e w' => e = .returned (.bool true) ∧ Below w.heap.size w w' := by
  have ho : ownerN 1 1 ⟨#[97]⟩ = 0 := by have := ownerN_lt 1 1 ⟨#[97]⟩ (by omega); omega
  have HO := hide' ho
  clear ho
  go_enter Tryz.func16, Tryz.ntmps16
  go_wp2_with fail
  go_at_call 21
  refine (ask_words w.heap.size _ (by simp) (by go_simp)).mono ?_
  rintro e w1 ⟨rfl, hb1⟩
  have q1 : Below w.heap.size w w1 := ((Below.refl _ _).alloc (Nat.le_refl _) _).trans (hb1.mono (by simp))
  have HQ1 := hide' q1
  clear q1 hb1
  go_wp2_with fail
  go_at_call 23
  refine (owner_ok 1 1 ⟨#[97]⟩ _ (by omega) (by omega) (by omega) (by omega) keyA (by decide)).mono ?_
  rintro e w2 ⟨rfl, hw2⟩
  subst hw2
  rw [HO.out]
  go_wp2_with fail
  go_at_call 43
  refine (decoder3 _).mono ?_
  rintro e w3 ⟨rfl, hw3⟩
  have hD3 : w3.heap[w2.heap.size]? = some (rd3 (.slice none 0 0) 0) := by rw [hw3]; exact blkNew w2 _
  have hB3 : Below w.heap.size w w3 := by rw [hw3]; exact HQ1.out.alloc HQ1.out.size _
  have hle : w.heap.size ≤ w2.heap.size := HQ1.out.size
  have hlt3 := blkLt hD3
  clear hw3
  have H3 := hide' (And.intro hD3 hB3)
  clear hD3 hB3
  go_wp2_with fail
  go_at_call 44
  refine (feed_ex w2.heap.size w3 H3.out.1).mono ?_
  rintro e w4 ⟨v, rfl, ⟨⟨A, C, kb, kc, rfl, h1, h2, h3, h4, h5, h6, h7⟩, t⟩⟩
  have hB4 : Below w.heap.size w w4 := H3.out.2.trans (t.below hle (by omega))
  have HB4 := hide' hB4
  clear hB4 t
  go_wp2
  go_ret
  exact ⟨rfl, HB4.out⟩
end Go.Proofs.YtlonjggfnleolaaGreatDoor
