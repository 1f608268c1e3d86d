/-
  A range over the function that Next gives.
-/
import Derived.Test.YtlonjggfnleolaaGreatDoorNextB
namespace Go.Proofs.YtlonjggfnleolaaGreatDoor
open Go.RowKit Go.Shelf
set_option linter.unusedVariables false
attribute [local go_sem] Oper.semAt_some

theorem wp_range120 {t : Tmp} {ps : Array Tmp} {assign body : Code} {Q : Exit → Act → World → Prop} {a : Act} {w : World} (X : Nat) (hg : a.tmps[t]?.getD undef = .func (.func 120) #[] #[.pointer (some ⟨X, 0, none⟩)])
    (h : ∀ (fn : FuncId) (rec : LoopState → Option Code → Loop), (∀ st pe, rec st pe = { state := st, pending := pe, fn := fn, tmps := a.tmps, params := ps, assign := assign, body := body, defers := w.heap.size }) →
      CallsIn Fence.wide 8 Tryz.prog 120 #[.func (.yield (w.heap.size + 1)) #[] #[], .pointer (some ⟨X, 0, none⟩)] ((w.alloc (.deferred (some []))).alloc (.loop (rec .ready none))) (rangePost Fence.wide 9 Tryz.prog (w.heap.size + 1) Q { a with defers := [{ target := .collected w.heap.size, args := #[] }] ++ a.defers })) :
    (Code.rangeFunc (.tmp t) ps assign body).wp Tryz.prog Q a w := by
  refine (wpIn_wide (n := 9)).1 (wpIn_rangeFunc ?_)
  intro fn hfn
  have h' := h fn (fun st pe => { state := st, pending := pe, fn := fn, tmps := a.tmps, params := ps, assign := assign, body := body, defers := w.heap.size }) (fun _ _ => rfl)
  generalize hW1 : (w.alloc (.deferred (some []))).alloc (.loop { state := .ready, pending := none, fn := fn, tmps := a.tmps, params := ps, assign := assign, body := body, defers := w.heap.size }) = W1 at h'
  refine ⟨w.heap.size + 1, [{ target := .collected w.heap.size, args := #[] }], W1, { target := .fn (.func 120) #[.pointer (some ⟨X, 0, none⟩)], args := #[.func (.yield (w.heap.size + 1)) #[] #[]] }, W1, 120,
    #[.func (.yield (w.heap.size + 1)) #[] #[], .pointer (some ⟨X, 0, none⟩)], W1, by rw [← hW1]; exact run_enterLoop_outer _ _ _ _ _, ?_, ?_, ?_, fun _ => by omega, h'⟩
  · unfold rangeCall
    simp [resolve, go_sem, hg]
  · intro f' hf'; trivial
  · have eg := enters_of Tryz.func120 (by kernel_rfl) rfl
    simp [invoke, go_sem]
end Go.Proofs.YtlonjggfnleolaaGreatDoor
