/-
  slices.ContainsFunc over bytes that are all 0.
-/
import Derived.Test.YtjmmbbehjklhgaaTonD
namespace Go.Proofs.Ytjmmbbehjklhgaa
open Go.ChangeShapes Go.WideShapes Go.ChangeAt Go.RowKit
set_option linter.unusedVariables false

theorem zero1 (w : World) : Calls Try.prog 20 #[.int .u8 0] w fun e w' => e = .returned (.bool false) ∧ w = w' := by
  go_enter Try.func20, Try.ntmps20
  go_wp2
  go_ret
  exact ⟨rfl, rfl⟩
theorem zero_at {w : World} {a : Option Addr} {c : Nat} {l : List UInt8} (h : sliceAt w (.slice a l.length c) l) (hz : ∀ x ∈ l, x = 0) (h0 : 0 < l.length) : ∃ g o, a = some ⟨g, o, none⟩ ∧ g < w.heap.size ∧ ∀ j, j < l.length → w.cell? ⟨g, o + j, none⟩ = some (.int .u8 0) := by
  rcases h with ⟨a', c', h1, h2⟩ | ⟨g, o, c', h1, h2, h3, h4⟩
  · rw [h2] at h0; simp at h0
  · simp only [Value.slice.injEq] at h1
    refine ⟨g, o, h1.1, h3, fun j hj => ?_⟩
    have e := hz _ (List.getElem_mem hj)
    have := h4 j _ (List.getElem?_eq_getElem hj)
    rw [e] at this
    exact this
theorem index_none (v : Value) (l : List UInt8) (w : World) (h : sliceAt w v l) (hz : ∀ x ∈ l, x = 0) (hl : l.length ≤ 100000) :
    Calls Try.prog 26 #[v, .func (.func 20) #[] #[]] w fun e w' => e = .returned (.int .i64 (-1)) ∧ w = w' := by
  obtain ⟨a, c, rfl⟩ := slice_len h
  by_cases h0 : 0 < l.length
  · obtain ⟨g, o, rfl, hg, hc⟩ := zero_at h hz h0
    have HC := hid hc
    clear hc h hz
    go_enter Try.func26, Try.ntmps26
    go_wp2
    go_loop [8] (fun i => ∃ j : Nat, j ≤ l.length ∧ i = .int .i64 j) (fun i => l.length - (intOf i).toNat)
    case atStart => exact ⟨0, Nat.zero_le _, rfl⟩
    case round =>
      obtain ⟨j, hj, rfl⟩ := hrel
      by_cases h8 : j < l.length
      · have h8' : (j : Int) < l.length := by omega
        have hcj := HC.out j h8
        go_wp2_with (go_at_call 20; refine (zero1 _).mono ?_; rintro e w1 ⟨rfl, rfl⟩)
        go_round
        case rel => exact ⟨j + 1, h8, by go_num⟩
        case measure => simp [intOf]; omega
      · have h9 : ¬ (j : Int) < l.length := by omega
        go_wp2
        go_ret
        exact ⟨rfl, rfl⟩
  · have e0 : l.length = 0 := by omega
    rw [e0]
    clear h hz hl h0
    go_enter Try.func26, Try.ntmps26
    go_wp2
    go_loop [8] (fun i => i = .int .i64 0) (fun i => 0)
    case atStart => exact rfl
    case round =>
      subst hrel
      go_wp2
      go_ret
      exact ⟨rfl, rfl⟩
theorem contains_none (v : Value) (l : List UInt8) (w : World) (h : sliceAt w v l) (hz : ∀ x ∈ l, x = 0) (hl : l.length ≤ 100000) :
    Calls Try.prog 19 #[v, .func (.func 20) #[] #[]] w fun e w' => e = .returned (.bool false) ∧ w = w' := by
  have hi := fun W hW => index_none v l W hW hz hl
  have H := hid h
  go_enter Try.func19, Try.ntmps19
  go_wp2_with (go_at_call 26; refine (hi _ H.out).mono ?_; rintro e w1 ⟨rfl, rfl⟩)
  go_ret
  exact ⟨rfl, rfl⟩
end Go.Proofs.Ytjmmbbehjklhgaa
