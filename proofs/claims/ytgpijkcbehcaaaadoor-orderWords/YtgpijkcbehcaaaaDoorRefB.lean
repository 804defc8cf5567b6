/-
  What bytes.ContainsAny answers of an order's letters and the letter w; the world is as it was.
-/
import Derived.Test.YtgpijkcbehcaaaaDoorOrdB
import Derived.Test.YtgpijkcbehcaaaaDoorShelfB
namespace Go.Proofs.YtgpijkcbehcaaaaDoor
open Go.ChangeShapes Go.WideShapes Go.ChangeAt Go.RowKit
set_option linter.unusedVariables false

/-- Block g of w holds these bytes. -/
def bytesAt (w : World) (g : Nat) (l : List UInt8) : Prop := ∀ i, i < l.length → w.cell? ⟨g, i, none⟩ = some (.int .u8 ((l.map fun b : UInt8 => (b.toNat : Int)).getD i 0))
theorem bytesOf_map (l : List UInt8) : Lib.bytesOf (l.map fun b : UInt8 => (b.toNat : Int)) = l := by
  unfold Lib.bytesOf
  induction l with
  | nil => rfl
  | cons b l ih => simp_all
theorem wrap_w : wrap32 (119 : Int) = 119 := by unfold wrap32; omega
theorem indexByte_w (l : List UInt8) (g n c : Nat) (w : World) (hn : l.length = n) (h : bytesAt w g l) :
    Calls Tryd.prog 51 #[.slice (some ⟨g, 0, none⟩) n c, .int .u8 119] w fun e w' => e = .returned (.int .i64 (Lib.indexByte l 119)) ∧ w' = w := by
  have := Tryd.bytes_IndexByte g 0 n c (l.map fun b : UInt8 => (b.toNat : Int)) 119 w (by simpa using hn) (fun i hi => by rw [Nat.zero_add]; exact h i (by omega))
  rw [bytesOf_map] at this
  exact this
set_option maxRecDepth 100000 in
theorem indexRune_w (l : List UInt8) (g n c : Nat) (w : World) (hn : l.length = n) (h : bytesAt w g l) :
    Calls Tryd.prog 35 #[.slice (some ⟨g, 0, none⟩) n c, .int .i32 119] w fun e w' => e = .returned (.int .i64 (Lib.indexByte l 119)) ∧ w' = w := by
  have H := hid h
  clear h
  go_enter Tryd.func35, Tryd.ntmps35
  go_wp2_with (go_at_call 51; refine (indexByte_w l g n c _ hn H.out).mono ?_; rintro e w' ⟨rfl, rfl⟩)
  go_ret
  exact ⟨rfl, rfl⟩
theorem ext_w (s : ByteArray) (x : Int) (w : World) : (callFunc 34 #[.string s, .int .u8 x]).run Tryd.prog w = .ok (.value (.int .i64 (Lib.indexByte s.data.toList x.toNat.toUInt8))) w := by
  rw [run_callFunc_extern Tryd.func34 (by kernel_rfl) (by kernel_rfl) (by kernel_rfl) (e := Extern.BytealgIndexByte.indexByte) (by kernel_rfl), Lib.run_indexByteString]
  rfl
set_option maxRecDepth 100000 in
set_option maxHeartbeats 400000 in
theorem indexAny_0 (l : List UInt8) (g c : Nat) (w : World) (hn : l.length = 0) (h : bytesAt w g l) :
    Calls Tryd.prog 25 #[.slice (some ⟨g, 0, none⟩) 0 c, .string ⟨#[119]⟩] w fun e w' => e = .returned (.int .i64 (Lib.indexByte l 119)) ∧ w' = w := by
  have H := hid h
  have HN := hid hn
  have e0 : ∀ h, wrap32 ((((⟨#[119]⟩ : ByteArray)[0]'h).toNat : Nat) : Int) = 119 := fun _ => wrap_w
  clear h hn
  go_enter Tryd.func25, Tryd.ntmps25
  go_wp2_with (go_at_call 35; refine (indexRune_w l g 0 c _ HN.out H.out).mono ?_; rintro e w' ⟨rfl, rfl⟩)
  go_ret
  exact ⟨rfl, rfl⟩
set_option maxRecDepth 100000 in
set_option maxHeartbeats 400000 in
theorem indexAny_2 (l : List UInt8) (g c : Nat) (w : World) (hn : l.length = 2) (h : bytesAt w g l) :
    Calls Tryd.prog 25 #[.slice (some ⟨g, 0, none⟩) 2 c, .string ⟨#[119]⟩] w fun e w' => e = .returned (.int .i64 (Lib.indexByte l 119)) ∧ w' = w := by
  have H := hid h
  have HN := hid hn
  have e0 : ∀ h, wrap32 ((((⟨#[119]⟩ : ByteArray)[0]'h).toNat : Nat) : Int) = 119 := fun _ => wrap_w
  clear h hn
  go_enter Tryd.func25, Tryd.ntmps25
  go_wp2_with (go_at_call 35; refine (indexRune_w l g 2 c _ HN.out H.out).mono ?_; rintro e w' ⟨rfl, rfl⟩)
  go_ret
  exact ⟨rfl, rfl⟩
set_option maxRecDepth 100000 in
set_option maxHeartbeats 400000 in
theorem indexAny_3 (l : List UInt8) (g c : Nat) (w : World) (hn : l.length = 3) (h : bytesAt w g l) :
    Calls Tryd.prog 25 #[.slice (some ⟨g, 0, none⟩) 3 c, .string ⟨#[119]⟩] w fun e w' => e = .returned (.int .i64 (Lib.indexByte l 119)) ∧ w' = w := by
  have H := hid h
  have HN := hid hn
  have e0 : ∀ h, wrap32 ((((⟨#[119]⟩ : ByteArray)[0]'h).toNat : Nat) : Int) = 119 := fun _ => wrap_w
  clear h hn
  go_enter Tryd.func25, Tryd.ntmps25
  go_wp2_with (go_at_call 35; refine (indexRune_w l g 3 c _ HN.out H.out).mono ?_; rintro e w' ⟨rfl, rfl⟩)
  go_ret
  exact ⟨rfl, rfl⟩
set_option maxRecDepth 100000 in
set_option maxHeartbeats 1600000 in
theorem indexAny_w (g c : Nat) (w : World) (h : w.cell? ⟨g, 0, none⟩ = some (.int .u8 119)) :
    Calls Tryd.prog 25 #[.slice (some ⟨g, 0, none⟩) 1 c, .string ⟨#[119]⟩] w fun e w' => e = .returned (.int .i64 0) ∧ w' = w := by
  have ex : ∀ w, (callFunc 34 #[.string ⟨#[119]⟩, .int .u8 119]).run Tryd.prog w = .ok (.value (.int .i64 0)) w := fun w => ext_w ⟨#[119]⟩ 119 w
  go_enter Tryd.func25, Tryd.ntmps25
  go_wp2
  go_ret
  exact ⟨rfl, rfl⟩
set_option maxRecDepth 100000 in
set_option maxHeartbeats 1600000 in
theorem indexAny_d (g c : Nat) (w : World) (h : w.cell? ⟨g, 0, none⟩ = some (.int .u8 100)) :
    Calls Tryd.prog 25 #[.slice (some ⟨g, 0, none⟩) 1 c, .string ⟨#[119]⟩] w fun e w' => e = .returned (.int .i64 (-1)) ∧ w' = w := by
  have ex : ∀ w, (callFunc 34 #[.string ⟨#[119]⟩, .int .u8 100]).run Tryd.prog w = .ok (.value (.int .i64 (-1))) w := fun w => ext_w ⟨#[119]⟩ 100 w
  go_enter Tryd.func25, Tryd.ntmps25
  go_wp2
  go_ret
  exact ⟨rfl, rfl⟩
set_option maxRecDepth 100000 in
set_option maxHeartbeats 1600000 in
theorem indexAny_s (g c : Nat) (w : World) (h : w.cell? ⟨g, 0, none⟩ = some (.int .u8 115)) :
    Calls Tryd.prog 25 #[.slice (some ⟨g, 0, none⟩) 1 c, .string ⟨#[119]⟩] w fun e w' => e = .returned (.int .i64 (-1)) ∧ w' = w := by
  have ex : ∀ w, (callFunc 34 #[.string ⟨#[119]⟩, .int .u8 115]).run Tryd.prog w = .ok (.value (.int .i64 (-1))) w := fun w => ext_w ⟨#[119]⟩ 115 w
  go_enter Tryd.func25, Tryd.ntmps25
  go_wp2
  go_ret
  exact ⟨rfl, rfl⟩
/-- The letters of an order. -/
def lets (k : Nat) : List UInt8 := (K.row k).2.1
theorem lets_1 : ∀ k, k < 32 → (lets k).length = 1 → (lets k = [119] ∨ lets k = [100] ∨ lets k = [115]) := by decide +kernel
theorem lets_n : ∀ k, k < 32 → (lets k).length ≤ 3 := by decide +kernel
theorem lets_w : ∀ k, k < 32 → decide (0 ≤ Lib.indexByte (lets k) 119) = O.hasC k 119 := by decide +kernel
theorem indexAny_k (k : Nat) (hk : k < 32) (g c : Nat) (w : World) (h : bytesAt w g (lets k)) :
    Calls Tryd.prog 25 #[.slice (some ⟨g, 0, none⟩) (lets k).length c, .string ⟨#[119]⟩] w fun e w' => e = .returned (.int .i64 (Lib.indexByte (lets k) 119)) ∧ w' = w := by
  by_cases h1 : (lets k).length = 1
  · have h0 := h 0 (by omega)
    rcases lets_1 k hk h1 with e | e | e <;> rw [e] at h0 ⊢
    · exact indexAny_w g c w h0
    · exact indexAny_d g c w h0
    · exact indexAny_s g c w h0
  · have hl := lets_n k hk
    have hc : (lets k).length = 0 ∨ (lets k).length = 2 ∨ (lets k).length = 3 := by omega
    rcases hc with e | e | e <;> rw [e]
    · exact indexAny_0 (lets k) g c w e h
    · exact indexAny_2 (lets k) g c w e h
    · exact indexAny_3 (lets k) g c w e h
theorem containsAny_k (k : Nat) (hk : k < 32) (g c : Nat) (w : World) (h : bytesAt w g (lets k)) :
    Calls Tryd.prog 14 #[.slice (some ⟨g, 0, none⟩) (lets k).length c, .string ⟨#[119]⟩] w fun e w' => e = .returned (.bool (O.hasC k 119)) ∧ w' = w := by
  have H := hid h
  have HW := hid (lets_w k hk)
  clear h
  go_enter Tryd.func14, Tryd.ntmps14
  go_wp2_with (go_at_call 25; refine (indexAny_k k hk g c _ H.out).mono ?_; rintro e w' ⟨rfl, rfl⟩)
  go_ret
  exact ⟨by rw [← HW.out]; rfl, rfl⟩
end Go.Proofs.YtgpijkcbehcaaaaDoor
