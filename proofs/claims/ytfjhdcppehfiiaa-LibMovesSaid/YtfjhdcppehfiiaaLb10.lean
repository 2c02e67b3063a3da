/- lib: no library. -/
import Derived.Test.YtfjhdcppehfiiaaLb9
namespace Go.Proofs.Ytfjhdcppehfiiaa
set_option linter.unusedVariables false
set_option linter.unusedSimpArgs false
open Go Go.RowKit
set_option maxRecDepth 10000 in
theorem cart_nil (z : Int) (w : World) : Calls Try.prog 11 #[.pointer none, .int .i64 z] w fun e w' => e = .returned (.pointer none) ∧ w' = w := by
  go_enter Try.func11, Try.ntmps11
  go_wp2_with fail
  go_ret
  exact ⟨rfl, rfl⟩
set_option maxRecDepth 10000 in
theorem drive_nil (z : Int) (w : World) : Calls Try.prog 32 #[.pointer none, .int .i64 z] w fun e w' => e = .returned (.pointer none) ∧ w' = w := by
  go_enter Try.func32, Try.ntmps32
  go_wp2_with fail
  go_ret
  exact ⟨rfl, rfl⟩
set_option maxRecDepth 10000 in
theorem carts_nil  (w : World) : Calls Try.prog 8 #[.pointer none] w fun e w' => e = .returned (.int .i64 0) ∧ w' = w := by
  go_enter Try.func8, Try.ntmps8
  go_wp2_with fail
  go_ret
  exact ⟨rfl, rfl⟩
set_option maxRecDepth 10000 in
theorem drives_nil  (w : World) : Calls Try.prog 16 #[.pointer none] w fun e w' => e = .returned (.int .i64 0) ∧ w' = w := by
  go_enter Try.func16, Try.ntmps16
  go_wp2_with fail
  go_ret
  exact ⟨rfl, rfl⟩
set_option maxRecDepth 10000 in
theorem standing_nil (z p : Int) (w : World) : Calls Try.prog 31 #[.pointer none, .int .i64 z, .int .i64 p] w fun e w' => e = .returned (.tuple #[.pointer none, .int .i64 1]) ∧ w' = w := by
  have h0 := Lib.hid (cart_nil z w)
  go_enter Try.func31, Try.ntmps31
  go_wp2_with (first
    | (go_at_call 11; go_must (refine h0.out.mono ?_); rintro e w' ⟨rfl, hee⟩; rw [hee]; clear hee))
  go_ret2
  exact ⟨rfl, rfl⟩
set_option maxRecDepth 10000 in
theorem go_nil (z p : Int) (w : World) : Calls Try.prog 13 #[.pointer none, .int .i64 z, .int .i64 p] w fun e w' => e = .returned (.tuple #[.bool false, .int .i64 1]) ∧ w' = w := by
  have h0 := Lib.hid (cart_nil z w)
  go_enter Try.func13, Try.ntmps13
  go_wp2_with (first
    | (go_at_call 11; go_must (refine h0.out.mono ?_); rintro e w' ⟨rfl, hee⟩; rw [hee]; clear hee))
  go_ret2
  exact ⟨rfl, rfl⟩
set_option maxRecDepth 10000 in
theorem read_nil (z p : Int) (w : World) : Calls Try.prog 15 #[.pointer none, .int .i64 z, .int .i64 p] w fun e w' => e = .returned (.tuple #[.slice none 0 0, .int .i64 1]) ∧ w' = w := by
  have h0 := Lib.hid (standing_nil z p w)
  go_enter Try.func15, Try.ntmps15
  go_wp2_with (first
    | (go_at_call 31; go_must (refine h0.out.mono ?_); rintro e w' ⟨rfl, hee⟩; rw [hee]; clear hee))
  go_ret2
  exact ⟨rfl, rfl⟩
set_option maxRecDepth 10000 in
theorem append_nil (z : Int) (v : Value) (w : World) : Calls Try.prog 21 #[.pointer none, .int .i64 z, v] w fun e w' => e = .returned (.tuple #[.int .i64 0, .int .i64 1]) ∧ w' = w := by
  have h0 := Lib.hid (cart_nil z w)
  have h1 := Lib.hid (clen_nil w)
  have h2 := Lib.hid (standing_nil z 0 w)
  go_enter Try.func21, Try.ntmps21
  go_wp2_with (first
    | (go_at_call 11; go_must (refine h0.out.mono ?_); rintro e w' ⟨rfl, hee⟩; rw [hee]; clear hee)
    | (go_at_call 12; go_must (refine h1.out.mono ?_); rintro e w' ⟨rfl, hee⟩; rw [hee]; clear hee)
    | (go_at_call 31; go_must (refine h2.out.mono ?_); rintro e w' ⟨rfl, hee⟩; rw [hee]; clear hee))
  go_ret2
  exact ⟨rfl, rfl⟩
set_option maxRecDepth 10000 in
theorem add_nil (z : Int) (w : World) : Calls Try.prog 22 #[.pointer none, .int .i64 z] w fun e w' => e = .returned (.tuple #[.int .i64 0, .bool false]) ∧ w' = w := by
  go_enter Try.func22, Try.ntmps22
  go_wp2_with fail
  go_ret2
  exact ⟨rfl, rfl⟩
set_option maxRecDepth 10000 in
theorem tell_nil (z : Int) (w : World) : Calls Try.prog 17 #[.pointer none, .int .i64 z] w fun e w' => e = .returned (.tuple #[.int .i64 (-1), .int .i64 0, .bool false]) ∧ w' = w := by
  have h0 := Lib.hid (drive_nil z w)
  go_enter Try.func17, Try.ntmps17
  go_wp2_with (first
    | (go_at_call 32; go_must (refine h0.out.mono ?_); rintro e w' ⟨rfl, hee⟩; rw [hee]; clear hee))
  refine bodyPost_ret (v := .tuple #[.int .i64 (-1), .int .i64 0, .bool false]) (by simp [results, Try.results17, go_sem]) rfl ?_
  exact ⟨rfl, rfl⟩
set_option maxRecDepth 10000 in
theorem break_nil (z : Int) (w : World) : Calls Try.prog 19 #[.pointer none, .int .i64 z] w fun e w' => e = .returned (.bool false) ∧ w' = w := by
  have h0 := Lib.hid (drive_nil z w)
  go_enter Try.func19, Try.ntmps19
  go_wp2_with (first
    | (go_at_call 32; go_must (refine h0.out.mono ?_); rintro e w' ⟨rfl, hee⟩; rw [hee]; clear hee))
  go_ret
  exact ⟨rfl, rfl⟩
set_option maxRecDepth 10000 in
theorem mend_nil (z : Int) (w : World) : Calls Try.prog 20 #[.pointer none, .int .i64 z] w fun e w' => e = .returned (.bool false) ∧ w' = w := by
  have h0 := Lib.hid (drive_nil z w)
  go_enter Try.func20, Try.ntmps20
  go_wp2_with (first
    | (go_at_call 32; go_must (refine h0.out.mono ?_); rintro e w' ⟨rfl, hee⟩; rw [hee]; clear hee))
  go_ret
  exact ⟨rfl, rfl⟩
set_option maxRecDepth 10000 in
theorem working_nil (w : World) : Calls Try.prog 9 #[.pointer none] w fun e w' => e = .returned (.int .i64 0) ∧ w' = w := by
  have hdr := Lib.hid (drives_nil w)
  go_enter Try.func9, Try.ntmps9
  go_wp2_with (go_at_call 16; go_must (refine hdr.out.mono ?_); rintro e w' ⟨rfl, hee⟩; rw [hee]; clear hee)
  go_loopw [3, 7] (fun s z wr => s = .int .i64 0 ∧ z = .int .i64 0 ∧ wr = w) (fun _ z _ => (intOf z).toNat)
  case atStart => exact ⟨rfl, rfl, rfl⟩
  case round =>
    obtain ⟨rfl, rfl, rfl⟩ := hrel
    go_wp2_with fail
    go_ret
    exact ⟨rfl, rfl⟩
end Go.Proofs.Ytfjhdcppehfiiaa
